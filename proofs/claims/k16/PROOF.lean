import PyProof.Rows.All
import Wide.All
import OpenK.AllK
import Wide.FinOn
import Lean
import PyProof.EqAt
import PyProof.EqKinds
import PyProof.TupleCall
import PyProof.P3Statements
import KE.KSortTup
import PyProof.AttrMissHeap
import PyProof.ZipIter
import PyProof.Draws
import PyProof.ListMulRoad
import Wide.Seal
import PySem.Challenge.RW_doorwatch_k16_whole_logs
set_option Elab.async false
set_option linter.all false
set_option maxRecDepth 100000
set_option maxHeartbeats 0
open PySem.W renaming Frag → y00, keepIn → y08, findIn → y0d, codeIn → y0g, fnOf → y0j, nsIn → y0t, isFn → y0z, mg_of → y14, mg_none_of → y1f, emptyDict → y1q, instObj → y25
open Option renaming bind_eq_some_iff → y01, map_eq_some_iff → y07, bind_some → y0q, map_some → y1w
open PySem renaming wpAny_bind → y02, Shared → y04, wpAny_pure → y06, starEach → y0a, FuncData → y0b, sizeLine → y0k, mainGlobals → y0o, Program → y0r, wpAny → y0v, wpAny_mono → y1g, mem_of_lookup → y2j
open PySem.Heap renaming get?_push_of_some → y03, lt_size → y0c, get?_push_size → y0m, size_push → y1a
open List renaming mem_cons_of_mem → y05, mem_cons → y09, map_cons → y0e, mem_cons_self → y0f, replicate → y0h, size_toArray → y0i, getElem?_eq_some_iff → y0l, mem_map → y0n, nodup_cons → y0s, getElem?_eq_getElem → y0w, length_cons → y0x, mem_singleton → y11, mem_append → y13, length_map → y16, getElem?_map → y17, pairwise_cons → y1b, map_nil → y1c, mem_append_right → y1d, lookup_cons → y1i, set_cons_zero → y1l, lookup → y1n, set_cons_succ → y1o, getElem?_append_right → y1p, nodup_append → y1r, getElem?_append_left → y1s, Nodup → y1v, find?_cons → y1x, replicate_succ → y1y, mem_of_getElem? → y21, append_nil → y26, zip_cons_cons → y29, length_append → y2a, length_filter_le → y2f, getElem?_set → y2g, flatten_cons → y2h
open Nat renaming le_refl → y0p, lt_of_lt_of_le → y0y, ne_of_lt → y10, ne_of_gt → y18, le_trans → y1u, zero_le → y2c
open PySem.Builtin.SmallTypes renaming nextOf → y0u, ownedTupleIsFree → y12
open PySem.Builtin.Tuple renaming tupleExact → y15
open Function renaming comp_def → y19
open Bool renaming and_eq_true → y1e, false_eq_true → y20, false_ne_true → y2b
open PySem.PyData renaming depthAll → y1h, canLayAll0 → y1j, str → y23, eqv → y28, depth → y2d
open PyProof.Rows renaming slot_tuple_getitem → y1k, callWith_type1 → y1z
open PySem.Builtin.Slice renaming slicePlaces → y1m
open Array renaming getElem?_eq_getElem → y1t, length_toList → y27
open PySem.Around renaming under_plainId → y22
open False renaming elim → y24
open PySem.PassesOwn renaming never → y2e
open PySem.F renaming slot_tuple_iterator_next → y2i
def PySem.W.Fast.tw12520268271370109317 : Nat := 0
def PySem.W.Fast.tw8871724831828529653 : Nat := 0
def PySem.W.Fast.tw6471751021257238689 : Nat := 0
def PySem.W.Fast.tw16224363366404893544 : Nat := 0
def PySem.W.Fast.tw15687799848685406420 : Nat := 0
def PySem.W.Fast.tw17289477050790462636 : Nat := 0
def PySem.W.Fast.tw16676870535399049309 : Nat := 0
def PySem.W.Fast.tw17239230226754808469 : Nat := 0
def PySem.W.Fast.tw7768659860377282818 : Nat := 0
def PySem.W.Fast.tw4344707468982402962 : Nat := 0
def PySem.W.Fast.tw14371574381909514968 : Nat := 0
def PySem.W.Fast.tw8235003851299892172 : Nat := 0
def PySem.W.Fast.tw15012418374309798226 : Nat := 0
def PySem.W.Fast.tw2162086663368535318 : Nat := 0
def PySem.W.Fast.tw14707316808883558332 : Nat := 0
def PySem.W.Fast.tw14610340114632830631 : Nat := 0
def PySem.W.Fast.tw11044798743766430400 : Nat := 0
def PySem.W.Fast.tw3858271283588351462 : Nat := 0
def PySem.W.Fast.tw17650136030968192421 : Nat := 0
def PySem.W.Fast.tw12324695966688100932 : Nat := 0
def PySem.W.Fast.tw1088782402458004976 : Nat := 0
def PySem.W.Fast.tw14044595027638566222 : Nat := 0
def PySem.W.Fast.tw5586046466252362528 : Nat := 0
def PySem.W.Fast.tw10654584690184478827 : Nat := 0
section
namespace L2
open PySem PySem.Spec PyProof.Rows
abbrev Key := Sum Int Str
def zf7 : Key -> Value -> Bool
 | .inl k, v => Value.isInt k v
 | .inr x, v => Value.isStrOf x v
def keyH (w : World) : Key -> Int
 | .inl k => hashInt k
 | .inr x => hashStr w x
theorem z1u : ∀ {k : Key} {v : Value}, zf7 k v = true -> (∃ i t, k = Sum.inl i /\ v = Value.int i t) \/ (∃ x t, k = Sum.inr x /\ v = Value.str x t)
 | .inl i, v, h => by
  obtain ⟨t, e⟩ := Value.isInt_shape (k := i) (v := v) h
  exact .inl ⟨i, t, rfl, e⟩
 | .inr x, v, h => by
  obtain ⟨t, e⟩ := Value.isStrOf_shape (x := x) (v := v) h
  exact .inr ⟨x, t, rfl, e⟩
theorem zl6 (i : Int) (t : Tok) : zf7 (.inl i) (.int i t) = true := by simp [zf7, Value.isInt]
theorem zl5 (x : Str) (t : Tok) : zf7 (.inr x) (.str x t) = true := by simp [zf7, Value.isStrOf]
theorem zrv (a b : Int) : decide ((Sum.inl a : Key) = Sum.inl b) = (a == b) := by
 by_cases e : a = b
 ·subst e; simp
 ·have h : ¬ (Sum.inl a : Key) = Sum.inl b := fun q => e (Sum.inl.inj q)
  rw [decide_eq_false h]
  exact (beq_eq_false_iff_ne.mpr e).symm
theorem zrs (a b : Str) : decide ((Sum.inr a : Key) = Sum.inr b) = decide (a = b) := by
 by_cases e : a = b
 ·subst e; simp
 ·have h : ¬ (Sum.inr a : Key) = Sum.inr b := fun q => e (Sum.inr.inj q)
  rw [decide_eq_false h, decide_eq_false e]
theorem zru (a : Int) (b : Str) : decide ((Sum.inl a : Key) = Sum.inr b) = false := decide_eq_false (fun q => nomatch q)
theorem zrt (a : Str) (b : Int) : decide ((Sum.inr a : Key) = Sum.inl b) = false := decide_eq_false (fun q => nomatch q)
def z1m (prog : y0r) (w : World) : PySem.KeyKind prog w Key where
 is := zf7
 hash := keyH w
 inj := fun v a b ha hb => by
  rcases z1u ha with ⟨i, t, rfl, rfl⟩ | ⟨x, t, rfl, rfl⟩
  ·rcases z1u hb with ⟨j, u, rfl, e⟩ | ⟨y, u, rfl, e⟩
   ·injection e with e1 _; rw [e1]
   ·exact nomatch e
  ·rcases z1u hb with ⟨j, u, rfl, e⟩ | ⟨y, u, rfl, e⟩
   ·exact nomatch e
   ·injection e with e1 _; rw [e1]
 byValue := fun k v h => by
  rcases z1u h with ⟨i, t, rfl, rfl⟩ | ⟨x, t, rfl, rfl⟩ <;> rfl
 pyHash := fun hv h => by
  rcases z1u hv with ⟨i, t, rfl, rfl⟩ | ⟨x, t, rfl, rfl⟩
  ·exact wpAny_pyHash_int h
  ·exact wpAny_pyHash_str h
 eqBool := fun hu hv h => by
  rcases z1u hu with ⟨i, t, rfl, rfl⟩ | ⟨x, t, rfl, rfl⟩
  ·rcases z1u hv with ⟨j, u, rfl, rfl⟩ | ⟨y, u, rfl, rfl⟩
   ·rw [zrv] at h; exact wpAny_eqBool_int h
   ·rw [zru] at h; exact SeqAt.EqAt.int_str i t y u _ _ _ _ h
  ·rcases z1u hv with ⟨j, u, rfl, rfl⟩ | ⟨y, u, rfl, rfl⟩
   ·rw [zrt] at h; exact SeqAt.EqAt.str_int x t j u _ _ _ _ h
   ·rw [zrs] at h; exact wpAny_eqBool_str h
 «strs» := fun k x t v h => by
  rcases z1u h with ⟨i, u, rfl, e⟩ | ⟨y, u, rfl, e⟩
  ·exact nomatch e
  ·injection e with e1 _
   subst e1
   cases v <;> rfl
theorem zcm (prog : y0r) (w : World) (k : Key) (v : Value) : (z1m prog w).is k v = zf7 k v := rfl
theorem zaz (prog : y0r) (w : World) (i : Int) (t : Tok) : (z1m prog w).is (.inl i) (.int i t) = true := zl6 i t
theorem zay (prog : y0r) (w : World) (x : Str) (t : Tok) : (z1m prog w).is (.inr x) (.str x t) = true := zl5 x t
end L2
namespace L2
open PySem PySem.Spec PyProof.Rows
inductive V where
 | non | bl (b : Bool) | int (i : Int) | str (x : Str) | byt (b : Array UInt8) | flt (b : UInt64) | ref (a : Addr) | ty (n : String)
 deriving DecidableEq
def RelV : V -> Value -> Prop
 | .non, u => u = Value.none
 | .bl b, u => u = Value.bool b
 | .int i, u => ∃ t, u = Value.int i t
 | .str x, u => ∃ t, u = Value.str x t
 | .byt b, u => ∃ t, u = Value.bytes b t
 | .flt b, u => ∃ t, u = Value.float b t
 | .ref a, u => u = Value.ref a
 | .ty n, u => u = Value.type n
abbrev Vals : List V -> List Value -> Prop := Paired RelV
theorem Vals.length {xs : List V} {us : List Value} (r : Vals xs us) : xs.length = us.length := Paired.length r
theorem Vals.get : ∀ {xs : List V} {us : List Value} {i : Nat} {x : V}, Vals xs us -> xs[i]? = some x -> ∃ u, us[i]? = some u /\ RelV x u
 | _, _, _, _, .nil, e => by simp at e
 | _, _, 0, _, .cons r _, e => by simp at e; subst e; exact ⟨_, rfl, r⟩
 | _, _, i + 1, x, .cons _ t, e => by
  obtain ⟨u, h1, h2⟩ := Vals.get (i := i) (x := x) t (by simpa using e)
  exact ⟨u, by simpa using h1, h2⟩
theorem Vals.append : ∀ {xs ys : List V} {us ws : List Value}, Vals xs us -> Vals ys ws -> Vals (xs ++ ys) (us ++ ws)
 | _, _, _, _, .nil, s => s
 | _, _, _, _, .cons r t, s => .cons r (Vals.append t s)
theorem Vals.take : ∀ {xs : List V} {us : List Value} (n : Nat), Vals xs us -> Vals (xs.take n) (us.take n)
 | _, _, 0, _ => .nil
 | _, _, _ + 1, .nil => .nil
 | _, _, n + 1, .cons r t => .cons r (Vals.take n t)
theorem Vals.drop : ∀ {xs : List V} {us : List Value} (n : Nat), Vals xs us -> Vals (xs.drop n) (us.drop n)
 | _, _, 0, r => r
 | _, _, _ + 1, .nil => .nil
 | _, _, n + 1, .cons _ t => Vals.drop n t
def RelO : Option V -> Option Value -> Prop
 | some v, some u => RelV v u
 | none, none => True
 | _, _ => False
def KV {κ : Type} : List (κ × V) -> List (κ × Value) -> Prop := Paired fun (p : κ × V) (q : κ × Value) => p.1 = q.1 /\ RelV p.2 q.2
def kV : Key -> V
 | .inl i => .int i
 | .inr x => .str x
inductive HO where
 | lst (xs : List V)
 | tup (xs : List V)
 | dK (kvs : List (Key × V)) | dT (kvs : List (List Key × V))
 | set (S : Int -> Bool) (n : Nat)
 | ins (C dx : Addr) (fs : List (Str × V))
 | own (x : Addr)
 | xd (fs : List (Str × V))
 | met (f x : Addr)
 | rng (lo hi : Int)
 | frz (o : Obj) (u : HO)
 | tbl (ps : Array Value)
 | ext (φ : Heap -> Prop)
abbrev Hp := Addr -> Option HO
def upd (H : Hp) (a : Addr) (o : HO) : Hp := fun b => if b = a then some o else H b
theorem z0d {H : Hp} {a : Addr} {o : HO} : upd H a o a = some o := by unfold upd; rw [if_pos rfl]
theorem z0j {H : Hp} {a b : Addr} {o : HO} (h : b ≠ a) : upd H a o b = H b := by unfold upd; rw [if_neg h]
theorem zt5 {H : Hp} {a b : Addr} {o u : HO} (h : H a = some o) (h' : H b = some u) (d : o ≠ u) : a ≠ b := by
 intro e; subst e; rw [h] at h'; exact d (Option.some.inj h')
theorem z2c {H : Hp} {a b : Addr} {o : HO} (h : H a = some o) (h' : H b = none) : a ≠ b := by
 intro e; subst e; rw [h] at h'; cases h'
section
variable (P : y0r) (w : World)
def z5b (H : Hp) (h : Heap) (a : Addr) : HO -> Prop
 | .lst xs => xs.length <= y0k /\ ∃ (its : List Value) (n : Nat), Vals xs its /\ h.get? a = some { cls := .type "list", data := .seq its.toArray n }
 | .tup xs => xs.length <= y0k /\ ∃ its : List Value, Vals xs its /\ IsTup h a its.toArray
 | .dK kvs => kvs.length <= y0k /\ (a == sysModules) = false /\ ∃ vs, KV kvs vs /\ h.DictOf (z1m P w) a vs
 | .dT kvs => kvs.length <= y0k /\ (a == sysModules) = false /\ ∃ xs : List (List Key × Addr × Value),
   Paired (fun (p : List Key × V) (q : List Key × Addr × Value) => p.1 = q.1 /\ H q.2.1 = some (.tup (p.1.map kV)) /\ RelV p.2 q.2.2) kvs xs /\
   ∃ o es ep, h.get? a = some o /\ o.ExactDict /\ o.data = .dict es ep /\ es.toList = xs.map (entryOfKey (tupleKind (z1m P w))) /\ (xs.map (·.1)).Nodup
 | .set S n => h.SetOf (intKind P w) a S n
 | .ins C dx fs => H dx = some (.own a) /\ fs.length <= 1000 /\ dx ≠ a /\ h.get? a = some (y25 C dx) /\
   ∃ mA, h.Ns1 dx mA /\ (∀ f, RelO (fs.lookup f) (mA f)) /\ PySem.Within mA (fs.map (·.1))
 | .own _ => ∃ o, h.get? a = some o
 | .xd fs => ∃ mA, h.Ns1 a mA /\ ∀ f, RelO (fs.lookup f) (mA f)
 | .rng lo hi => ∃ t u v, h.get? a = some { cls := .type "range", data := .fields #[.int lo t, .int hi u, .int 1 v] }
 | .frz o u => h.get? a = some o /\ z5b H h a u
 | .tbl ps => h.get? a = some { cls := .none, data := .fields ps }
 | .met f x => h.get? a = some (PySem.W.methodObj (.ref f) (.ref x))
 | .ext φ => φ h /\ (∃ o, h.get? a = some o) /\ ∀ h1 h2 : Heap, φ h1 -> (∀ o, h1.get? a = some o -> h2.get? a = some o) -> φ h2
def HOk (H : Hp) (h : Heap) : Prop := ∀ a o, H a = some o -> z5b P w H h a o
end
section
variable {P : y0r} {w : World} {H H' : Hp} {h h' : Heap} {a : Addr} {o : HO}
theorem z5b.lt (x : z5b P w H h a o) : a < h.objs.size := by
 cases o with
 | lst xs => obtain ⟨_, _, _, _, e⟩ := x; exact y0c e
 | tup xs => obtain ⟨_, _, _, p⟩ := x; exact p.lt
 | dK kvs => obtain ⟨_, _, _, _, o, _, _, e, _⟩ := x; exact y0c e
 | dT kvs => obtain ⟨_, _, _, _, o, _, _, e, _⟩ := x; exact y0c e
 | set S n => obtain ⟨o, _, _, _, e, _⟩ := x; exact y0c e
 | ins C dx fs => obtain ⟨_, _, _, e, _⟩ := x; exact y0c e
 | own y => obtain ⟨_, e⟩ := x; exact y0c e
 | xd fs => obtain ⟨_, ⟨_, _, _, e, _⟩, _⟩ := x; exact y0c e
 | rng lo hi => obtain ⟨_, _, _, e⟩ := x; exact y0c e
 | frz ob u => obtain ⟨e, _⟩ := x; exact y0c e
 | tbl ps => exact y0c (show h.get? a = some _ from x)
 | met f y => exact y0c (show h.get? a = some _ from x)
 | ext φ => obtain ⟨_, ⟨_, e⟩, _⟩ := x; exact y0c e
theorem Paired.mapP {α β : Type} {F G : α -> β -> Prop} : ∀ {l₁ : List α} {l₂ : List β}, Paired F l₁ l₂ -> (∀ a b, F a b -> G a b) -> Paired G l₁ l₂
 | _, _, .nil, _ => .nil
 | _, _, .cons r t, f => .cons (f _ _ r) (Paired.mapP t f)
theorem z5b.stay (x : z5b P w H h a o) (k : ∀ b u, (b = a \/ H b = some (.own a)) -> h.get? b = some u -> h'.get? b = some u)
  (ho : ∀ b, H b = some (.own a) -> H' b = some (.own a)) (ht : ∀ b xs, H b = some (.tup xs) -> H' b = some (.tup xs)) : z5b P w H' h' a o := by
 induction o with
 | lst xs => obtain ⟨z, its, n, r, e⟩ := x; exact ⟨z, its, n, r, k _ _ (.inl rfl) e⟩
 | tup xs => obtain ⟨z, its, r, ob, e, c⟩ := x; exact ⟨z, its, r, ob, k _ _ (.inl rfl) e, c⟩
 | dK kvs => obtain ⟨z, y, vs, r, ob, es, ep, e, c⟩ := x; exact ⟨z, y, vs, r, ob, es, ep, k _ _ (.inl rfl) e, c⟩
 | dT kvs =>
  obtain ⟨z, y, xs, r, ob, es, ep, e, c⟩ := x
  exact ⟨z, y, xs, Paired.mapP r fun p q z => ⟨z.1, ht _ _ z.2.1, z.2.2⟩, ob, es, ep, k _ _ (.inl rfl) e, c⟩
 | set S n => obtain ⟨ob, es, ep, t, e, c⟩ := x; exact ⟨ob, es, ep, t, k _ _ (.inl rfl) e, c⟩
 | ins C dx fs =>
  obtain ⟨d, z, ne, e, mA, ⟨od, es, ep, e2, c⟩, r⟩ := x
  exact ⟨ho _ d, z, ne, k _ _ (.inl rfl) e, mA, ⟨od, es, ep, k _ _ (.inr d) e2, c⟩, r⟩
 | own y => obtain ⟨ob, e⟩ := x; exact ⟨ob, k _ _ (.inl rfl) e⟩
 | xd fs => obtain ⟨mA, ⟨od, es, ep, e, c⟩, r⟩ := x; exact ⟨mA, ⟨od, es, ep, k _ _ (.inl rfl) e, c⟩, r⟩
 | rng lo hi => obtain ⟨t, u, v, e⟩ := x; exact ⟨t, u, v, k _ _ (.inl rfl) e⟩
 | frz ob u ih => obtain ⟨e, q⟩ := x; exact ⟨k _ _ (.inl rfl) e, ih q⟩
 | tbl ps =>
  have e : h.get? a = some { cls := .none, data := .fields ps } := x
  show h'.get? a = some { cls := .none, data := .fields ps }
  exact k a _ (.inl rfl) e
 | met f y =>
  have e : h.get? a = some (PySem.W.methodObj (.ref f) (.ref y)) := x
  show h'.get? a = some (PySem.W.methodObj (.ref f) (.ref y))
  exact k a _ (.inl rfl) e
 | ext φ => obtain ⟨p, ⟨o, e⟩, st⟩ := x; exact ⟨st _ _ p fun o q => k _ _ (.inl rfl) q, ⟨o, k _ _ (.inl rfl) e⟩, st⟩
theorem HOk.lt (x : HOk P w H h) (e : H a = some o) : a < h.objs.size := (x a o e).lt
theorem HOk.fresh (x : HOk P w H h) (e : h.objs.size <= a) : H a = none := by
 cases q : H a with
 | none => rfl
 | some u => exact absurd (y0y (x.lt q) e) (Nat.lt_irrefl _)
theorem HOk.kept (x : HOk P w H h) (k : ∀ b u, h.get? b = some u -> h'.get? b = some u) : HOk P w H h' := fun a o e =>
 (x a o e).stay (fun b u _ q => k b u q) (fun _ q => q) fun _ _ q => q
theorem HOk.laid (x : HOk P w H h) (k : ∀ b u, h.get? b = some u -> h'.get? b = some u) (hp : h.objs.size <= a) (new : z5b P w (upd H a o) h' a o) : HOk P w (upd H a o) h' := fun b u e => by
 have hn := x.fresh hp
 by_cases hb : b = a
 ·subst hb; rw [z0d] at e; cases e; exact new
 ·rw [z0j hb] at e
  exact (x b u e).stay (fun c v _ q => k c v q) (fun c q => by rw [z0j (z2c q hn)]; exact q) fun c xs q => by rw [z0j (z2c q hn)]; exact q
end
def Rd (H : Hp) (a : Addr) (u : HO) : Prop := H a = some u \/ ∃ o, H a = some (.frz o u)
theorem Rd.ok {P : y0r} {w : World} {H : Hp} {h : Heap} {a : Addr} {u : HO} (r : Rd H a u) (x : HOk P w H h) : z5b P w H h a u := by
 rcases r with r | ⟨o, r⟩
 ·exact x a u r
 ·obtain ⟨_, q⟩ := x a _ r
  exact q
def Mut : Option HO -> Prop
 | some (.lst _) => True
 | some (.dK _) => True
 | some (.dT _) => True
 | some (.set _ _) => True
 | some (.ins _ _ _) => True
 | some (.ext _) => True
 | _ => False
section
variable {P : y0r} {w : World} {H : Hp} {h h' : Heap} {x e : Addr} {o' : HO}
theorem HOk.write (ok : HOk P w H h) (mu : Mut (H x)) (he : e = x \/ H e = some (.own x)) (k : ∀ b u, b ≠ e -> h.get? b = some u -> h'.get? b = some u) (heo : ∃ u, h'.get? e = some u)
  (new : z5b P w (upd H x o') h' x o') : HOk P w (upd H x o') h' := fun b u q => by
 have nown : ∀ c y, H c = some (.own y) -> c ≠ x := fun c y r z => by subst z; rw [r] at mu; exact mu
 have ntup : ∀ c xs, H c = some (.tup xs) -> c ≠ x := fun c xs r z => by subst z; rw [r] at mu; exact mu
 by_cases hb : b = x
 ·subst hb; rw [z0d] at q; cases q; exact new
 ·rw [z0j hb] at q
  by_cases hbe : b = e
  ·have q' : H b = some (.own x) := by
    rcases he with z | z
    ·exact absurd (hbe.trans z) hb
    ·rw [hbe]; exact z
   rw [q] at q'; cases q'
   obtain ⟨v, hv⟩ := heo
   exact ⟨v, by rw [hbe]; exact hv⟩
  ·refine (ok b u q).stay (fun c v hc r => k c v ?_ r) (fun c r => by rw [z0j (nown c b r)]; exact r) fun c xs r => by rw [z0j (ntup c xs r)]; exact r
   rcases hc with rfl | hc
   ·exact hbe
   ·rintro rfl
    rcases he with z | z
    ·exact nown c b hc z
    ·rw [hc] at z; cases z; exact hb rfl
end
structure Un (fs ex : List Addr) (H H' : Hp) (h h' : Heap) : Prop where
 keep : ∀ b o, h.get? b = some o -> H b = none -> b ∉ fs -> b ∉ ex -> h'.get? b = some o
 slot : ∀ b o, h.get? b = some o -> H b = none -> b ∈ fs -> b ∉ ex -> ∃ sl, h'.get? b = some { o with slots := sl }
 free : ∀ b o, h.get? b = some o -> H b = none -> b ∉ ex -> H' b = none
 there : ∀ b o, h.get? b = some o -> b ∉ ex -> ∃ o', h'.get? b = some o'
 tups : ∀ b xs, H b = some (.tup xs) -> H' b = some (.tup xs)
 frzs : ∀ b o u, H b = some (.frz o u) -> H' b = some (.frz o u)
 tbls : ∀ b ps, H b = some (.tbl ps) -> ∃ more, H' b = some (.tbl (ps ++ more))
section
variable {fs fs' ex ex' : List Addr} {H H1 H2 : Hp} {h h1 h2 h' : Heap} {a x e : Addr} {o : HO}
theorem Un.any (u : Un fs ex H H1 h h1) {b : Addr} {ob : Obj} (q : h.get? b = some ob) (n : H b = none) (hx : b ∉ ex) : ∃ sl, h1.get? b = some { ob with slots := sl } := by
 by_cases hb : b ∈ fs
 ·exact u.slot b ob q n hb hx
 ·exact ⟨ob.slots, u.keep b ob q n hb hx⟩
theorem Un.kept (k : ∀ b u, h.get? b = some u -> h'.get? b = some u) : Un fs ex H H h h' :=
 ⟨fun b ob q _ _ _ => k b ob q, fun b ob q _ _ _ => ⟨ob.slots, k b ob q⟩, fun _ _ _ n _ => n, fun b ob q _ => ⟨ob, k b ob q⟩, fun _ _ q => q, fun _ _ _ q => q, fun _ ps q => ⟨#[], by rw [q]; simp⟩⟩
theorem Un.refl : Un fs ex H H h h := Un.kept fun _ _ q => q
theorem Un.laid (k : ∀ b u, h.get? b = some u -> h'.get? b = some u) (hp : h.objs.size <= a) (hn : H a = none) : Un fs ex H (upd H a o) h h' where
 keep := fun b u q _ _ _ => k b u q
 slot := fun b u q _ _ _ => ⟨u.slots, k b u q⟩
 free := fun b u q n _ => by rw [z0j (y10 (y0y (y0c q) hp))]; exact n
 there := fun b u q _ => ⟨u, k b u q⟩
 tups := fun b xs q => by rw [z0j (z2c q hn)]; exact q
 frzs := fun b u xs q => by rw [z0j (z2c q hn)]; exact q
 tbls := fun b ps q => ⟨#[], by rw [z0j (z2c q hn), q]; simp⟩
theorem Un.write (mu : Mut (H x)) (he : e = x \/ H e = some (.own x)) (k : ∀ b u, b ≠ e -> h.get? b = some u -> h'.get? b = some u) (heo : ∃ u, h'.get? e = some u) : Un fs ex H (upd H x o) h h' := by
 have hx : ∀ b, H b = none -> b ≠ x := fun b n z => by subst z; rw [n] at mu; exact mu
 have hb : ∀ b, H b = none -> b ≠ e := fun b n z => by
  subst z
  rcases he with r | r
  ·exact hx b n r
  ·rw [n] at r; cases r
 have hm : ∀ b u, H b = some u -> ¬ Mut (some u) -> b ≠ x := fun b u q nm z => by subst z; rw [q] at mu; exact nm mu
 refine ⟨fun b u q n _ _ => k b u (hb b n) q, fun b u q n _ _ => ⟨u.slots, k b u (hb b n) q⟩, fun b u q n _ => by rw [z0j (hx b n)]; exact n, fun b u q _ => ?_,
  fun b xs q => by rw [z0j (hm b _ q fun z => z)]; exact q, fun b u xs q => by rw [z0j (hm b _ q fun z => z)]; exact q, fun b ps q => ⟨#[], by rw [z0j (hm b _ q fun z => z), q]; simp⟩⟩
 by_cases hbe : b = e
 ·subst hbe; exact heo
 ·exact ⟨u, k b u hbe q⟩
end
def trk (h : Heap) (H : Hp) : List Addr := (List.range h.objs.size).filter fun a => (H a).isSome
def hidT (h : Heap) (H : Hp) : Heap := PySem.W.hideAll h (trk h H)
theorem zlg (h : Heap) (H : Hp) : (hidT h H).objs.size = h.objs.size := PySem.W.hideAll_size _ _
theorem zne {h : Heap} {H : Hp} {b : Addr} {o : Obj} (e : h.get? b = some o) (n : H b = none) : (hidT h H).get? b = some o :=
 PySem.W.hideAll_get _ e fun hm => by
  have q : (H b).isSome = true := (List.mem_filter.mp hm).2
  rw [n] at q; simp at q
theorem zpr {h : Heap} {H : Hp} {b : Addr} {o : Obj} (e : (hidT h H).get? b = some o) : h.get? b = some o /\ H b = none := by
 have e' : h.get? b = some o := PySem.W.of_hideAll (trk h H) e
 refine ⟨e', ?_⟩
 cases q : H b with
 | none => rfl
 | some x =>
  have hm : b ∈ trk h H := List.mem_filter.mpr ⟨List.mem_range.mpr (y0c e'), by simp [q]⟩
  have z : (hidT h H).get? b = none := PySem.W.hideAll_none (trk h H) hm
  rw [z] at e; cases e
def zqg (g h : Heap) (L : Addr) : List (Addr × Obj) := (List.range h.objs.size).filterMap fun a => if a = L \/ (g.get? a).isSome = true then none else (h.get? a).map fun o => (a, o)
def rest (g h : Heap) (L d : Addr) : List (Addr × Obj) := (zqg g h L).filter fun p => decide (p.1 ≠ d)
end L2
namespace L2
open PySem PySem.Spec PyProof.Rows
structure Mod (K : y00) (mg : Str -> Option Value) (base : Heap) : Prop where
 kin : K.In base
 glob : base.Ns y0o mg
 blt : ∃ mb, base.Ns builtinsNs mb /\ ∀ x : Str, x ≠ "__name__" -> mb x = bootBuiltins x
 nolimit : base.NoLimit
structure Cx where
 prog : y0r
 w : World
 K : y00
 mg : Str -> Option Value
 base : Heap
 A : Around
 N : List Str
 s₀ : y04
 H₀ : Hp
 env : Env
 outer : List Env
 stack : List Env
 ex : List Addr
 fn : Str -> Bool
 calm : Bool
 pn : List (Addr × Obj)
 xe : Value -> y04 -> Prop
def frs (l : List Env) : List Addr := l.filterMap (·.frame)
abbrev Cx.fs (X : Cx) : List Addr := frs X.outer
def Vis (sc : Scope) (x : Str) : Prop := sc.names.lookup x = some .local \/ sc.names.lookup x = some .cell \/ sc.names.lookup x = some .free
def Loc (sc : Scope) (x : Str) : Prop := sc.names.lookup x = some .local \/ sc.names.lookup x = some .cell
def Look (env : Env) (h : Heap) (m : Str -> Option Value) (x : Str) (u : Value) : Prop :=
 (env.kindOf x = some .local /\ m x = some u) \/ ((env.kindOf x = some .cell \/ env.kindOf x = some .free) /\ ∃ c, env.cells.lookup x = some c /\ h.IsCell c (some u))
structure Cx.Ok (X : Cx) : Prop where
 mod : Mod X.K X.mg X.base
 kind : X.env.scope.kind = .function
 glob : X.env.globals = y0o
 blt : X.env.builtins = builtinsNs
 above : X.s₀.heap.objs.size <= X.env.locals
 inj : ∀ x y c, X.env.cells.lookup x = some c -> X.env.cells.lookup y = some c -> x = y
 has : ∀ x, (X.env.kindOf x = some .cell \/ X.env.kindOf x = some .free) -> ∃ c, X.env.cells.lookup x = some c
 cab : ∀ x c, X.fn x = true -> X.env.cells.lookup x = some c -> X.s₀.heap.objs.size <= c
 hd : X.calm = true -> X.A.handled = none
 frames : X.A.frames = some X.stack
 stk : X.stack = X.outer \/ (X.stack = X.env :: X.outer /\ X.env.frame = some X.env.locals)
 exf : ∀ b ∈ X.ex, b ≠ X.env.locals /\ ∀ x c, X.env.cells.lookup x = some c -> c ≠ b
 bs : ∀ b o, X.base.get? b = some o -> X.s₀.heap.get? b = some o /\ X.H₀ b = none
 bsz : X.base.objs.size <= X.s₀.heap.objs.size
 noex : ∀ b o, X.base.get? b = some o -> b ∉ X.ex
 exfs : ∀ b ∈ X.ex, b ∉ X.fs
 funs : X.s₀.heap.FunFrames X.base X.outer
 frf : ∀ b ∈ X.fs, X.H₀ b = none
structure Inv (X : Cx) (pins : List (Addr × Obj)) (σ : List (Option V)) (H : Hp) (s : y04) : Prop where
 ok : X.Ok
 os : s.os = X.s₀.os
 bare : AllBare s.gens
 base : Un X.fs X.ex X.H₀ H X.s₀.heap s.heap
 loc : ∃ m, s.heap.Ns X.env.locals m /\ ∀ (i : Nat) (x : Str) (v : V), X.N[i]? = some x -> σ[i]? = some (some v) -> Vis X.env.scope x -> ∃ u, RelV v u /\ Look X.env s.heap m x u
 cell : ∀ x c, X.env.cells.lookup x = some c -> ∃ v, s.heap.IsCell c v
 free : H X.env.locals = none
 freeC : ∀ x c, X.env.cells.lookup x = some c -> H c = none
 pin : ∀ p ∈ X.pn ++ pins, s.heap.get? p.1 = some p.2 /\ H p.1 = none /\ p.1 ≠ X.env.locals /\ p.1 ∉ X.fs /\ ∀ v, p.2.data ≠ .cell v
 hok : HOk X.prog X.w H s.heap
 len : σ.length = X.N.length
section
variable {X : Cx} {pins : List (Addr × Obj)} {σ : List (Option V)} {H H' : Hp} {s : y04} {h' : Heap}
theorem Cx.Ok.nofr (ok : X.Ok) {b : Addr} {o : Obj} (e : X.base.get? b = some o) : b ∉ X.fs := fun hb => by
 have := (ok.funs.mem hb).1
 rw [e] at this; cases this
theorem Inv.bs (I : Inv X pins σ H s) : ∀ b o, X.base.get? b = some o -> s.heap.get? b = some o /\ H b = none := fun b o e =>
 ⟨I.base.keep b o (I.ok.bs b o e).1 (I.ok.bs b o e).2 (I.ok.nofr e) (I.ok.noex b o e), I.base.free b o (I.ok.bs b o e).1 (I.ok.bs b o e).2 (I.ok.noex b o e)⟩
theorem Inv.bk (I : Inv X pins σ H s) : ∀ b o, X.base.get? b = some o -> s.heap.get? b = some o := fun b o e => (I.bs b o e).1
theorem Inv.mod (I : Inv X pins σ H s) : Mod X.K X.mg X.base := I.ok.mod
theorem Inv.kIn (I : Inv X pins σ H s) : X.K.In s.heap := I.ok.mod.kin.keeps I.bk
theorem Inv.lt (I : Inv X pins σ H s) : X.env.locals < s.heap.objs.size := let ⟨_, hn, _⟩ := I.loc; hn.lt
theorem Inv.sz (I : Inv X pins σ H s) : X.s₀.heap.objs.size <= s.heap.objs.size := y1u I.ok.above (Nat.le_of_lt I.lt)
theorem Inv.nofs (I : Inv X pins σ H s) {a : Addr} (h : s.heap.objs.size <= a) : a ∉ X.fs := fun hb => by
 obtain ⟨_, o, ho, _⟩ := I.ok.funs.mem hb
 exact absurd (y0y (y0c ho) (y1u I.sz h)) (Nat.lt_irrefl _)
theorem Inv.cne (I : Inv X pins σ H s) : ∀ x c, X.env.cells.lookup x = some c -> c ≠ X.env.locals := fun x c e z => by
 obtain ⟨v, o, ho, hd⟩ := I.cell x c e
 obtain ⟨m, ⟨o', es, ep, ho', hd', _⟩, _⟩ := I.loc
 rw [z, ho'] at ho; cases ho; rw [hd'] at hd; cases hd
theorem Inv.funs (I : Inv X pins σ H s) : s.heap.FunFrames X.base X.outer := by
 have all : ∀ (l : List Env), (∀ b ∈ frs l, b ∈ X.fs) -> X.s₀.heap.FunFrames X.base l -> s.heap.FunFrames X.base l := by
  intro l
  induction l with
  | nil => intro _ _; trivial
  | cons env r ih =>
   intro hs hl
   obtain ⟨hk, ⟨L, o, hf, hn, ho, hd⟩, hr⟩ := hl
   have hL : L ∈ X.fs := hs L (by unfold frs; rw [List.filterMap_cons, hf]; exact y0f)
   obtain ⟨sl, e⟩ := I.base.slot L o ho (I.ok.frf L hL) hL fun z => I.ok.exfs L z hL
   exact ⟨hk, ⟨L, _, hf, hn, e, hd⟩, ih (fun b hb => hs b (by unfold frs; rw [List.filterMap_cons, hf]; exact y05 _ hb)) hr⟩
 exact all X.outer (fun _ hb => hb) I.ok.funs
theorem Inv.stack (I : Inv X pins σ H s) : s.heap.FunFrames X.base X.stack := by
 rcases I.ok.stk with e | ⟨e, hf⟩
 ·rw [e]; exact I.funs
 ·rw [e]
  obtain ⟨m, hn, _⟩ := I.loc
  refine .cons (by rw [I.ok.kind]; decide) hf hn ?_ I.funs
  exact Heap.get?_none_of_le (y1u I.ok.bsz I.ok.above)
theorem Inv.stkSub (I : Inv X pins σ H s) : ∀ b ∈ frs X.stack, b ∈ X.env.locals :: X.fs := fun b hb => by
 rcases I.ok.stk with e | ⟨e, hf⟩
 ·rw [e] at hb; exact y05 _ hb
 ·rw [e] at hb
  unfold frs at hb
  rw [List.filterMap_cons, hf] at hb
  exact hb
theorem Inv.stkFree (I : Inv X pins σ H s) : ∀ b ∈ frs X.stack, H b = none := fun b hb => by
 rcases y09.mp (I.stkSub b hb) with e | hb
 ·rw [e]; exact I.free
 ·obtain ⟨_, o, ho, _⟩ := I.ok.funs.mem hb
  exact I.base.free b o ho (I.ok.frf b hb) fun z => I.ok.exfs b z hb
theorem Inv.step {g' : Array GenState} {t' : Nat} {d' : Drawn} {ch : List Addr} (I : Inv X pins σ H s)
  (hch : ∀ b ∈ ch, (b ∈ X.ex \/ X.s₀.heap.objs.size <= b) /\ b ≠ X.env.locals /\ (∀ x c, X.env.cells.lookup x = some c -> c ≠ b) /\ ∀ p ∈ X.pn ++ pins, p.1 ≠ b)
  (keep : ∀ b o, b ≠ X.env.locals -> b ∉ X.fs -> b ∉ ch -> s.heap.get? b = some o -> H b = none -> h'.get? b = some o)
  (slot : ∀ b o, b ≠ X.env.locals -> b ∈ X.fs -> b ∉ ch -> s.heap.get? b = some o -> H b = none -> ∃ sl, h'.get? b = some { o with slots := sl }) (free : ∀ b o, b ∉ ch -> s.heap.get? b = some o -> H b = none -> H' b = none)
  (there : ∀ b o, b ∉ ch -> s.heap.get? b = some o -> ∃ o', h'.get? b = some o')
  (tups : ∀ b xs, H b = some (.tup xs) -> H' b = some (.tup xs)) (frzs : ∀ b o u, H b = some (.frz o u) -> H' b = some (.frz o u)) (tbls : ∀ b ps, H b = some (.tbl ps) -> ∃ more, H' b = some (.tbl (ps ++ more)))
  (ns : ∀ m, s.heap.Ns X.env.locals m -> h'.Ns X.env.locals m) (hok : HOk X.prog X.w H' h') (hg : AllBare g') :
  Inv X pins σ H' { s with heap := h', gens := g', drawn := d', toks := t' } := by
 have neL : ∀ b o, X.s₀.heap.get? b = some o -> b ≠ X.env.locals := fun b o e => y10 (y0y (y0c e) I.ok.above)
 have neC : ∀ b o, X.s₀.heap.get? b = some o -> b ∉ X.ex -> b ∉ ch := fun b o e hx hb => by
  rcases (hch b hb).1 with z | z
  ·exact hx z
  ·exact absurd (y0y (y0c e) z) (Nat.lt_irrefl _)
 have cellK : ∀ x c, X.env.cells.lookup x = some c -> ∀ v, s.heap.IsCell c v -> h'.IsCell c v := fun x c e v ⟨o, ho, hd⟩ => by
  have nch : c ∉ ch := fun z => (hch c z).2.2.1 x c e rfl
  by_cases hc : c ∈ X.fs
  ·obtain ⟨sl, q⟩ := slot c o (I.cne x c e) hc nch ho (I.freeC x c e)
   exact ⟨_, q, hd⟩
  ·exact ⟨o, keep c o (I.cne x c e) hc nch ho (I.freeC x c e), hd⟩
 refine ⟨I.ok, I.os, hg, ⟨fun b o e n hb hx => ?_, fun b o e n hb hx => ?_, fun b o e n hx => ?_, fun b o e hx => ?_, fun b xs e => tups b xs (I.base.tups b xs e), fun b o xs e => frzs b o xs (I.base.frzs b o xs e), fun b ps e => ?_⟩, ?_, fun x c e => ?_, ?_, fun x c e => ?_, fun p hp => ?_, hok, I.len⟩
 ·exact keep b o (neL b o e) hb (neC b o e hx) (I.base.keep b o e n hb hx) (I.base.free b o e n hx)
 ·obtain ⟨sl, e1⟩ := I.base.slot b o e n hb hx
  obtain ⟨sl', e2⟩ := slot b _ (neL b o e) hb (neC b o e hx) e1 (I.base.free b o e n hx)
  exact ⟨sl', e2⟩
 ·obtain ⟨o', e1⟩ := I.base.there b o e hx
  exact free b o' (neC b o e hx) e1 (I.base.free b o e n hx)
 ·obtain ⟨o', e1⟩ := I.base.there b o e hx
  exact there b o' (neC b o e hx) e1
 ·obtain ⟨m1, e1⟩ := I.base.tbls b ps e
  obtain ⟨m2, e2⟩ := tbls b _ e1
  exact ⟨m1 ++ m2, by rw [e2, Array.append_assoc]⟩
 ·obtain ⟨m, hn, hl⟩ := I.loc
  refine ⟨m, ns m hn, fun i x v e1 e2 e3 => ?_⟩
  obtain ⟨u, r, l⟩ := hl i x v e1 e2 e3
  refine ⟨u, r, ?_⟩
  rcases l with l | ⟨k, c, e, z⟩
  ·exact .inl l
  ·exact .inr ⟨k, c, e, cellK x c e _ z⟩
 ·obtain ⟨v, z⟩ := I.cell x c e
  exact ⟨v, cellK x c e v z⟩
 ·obtain ⟨m, ⟨o, _, _, ho, _⟩, _⟩ := I.loc
  exact free _ o (fun z => (hch _ z).2.1 rfl) ho I.free
 ·obtain ⟨v, o, ho, hd⟩ := I.cell x c e
  exact free c o (fun z => (hch c z).2.2.1 x c e rfl) ho (I.freeC x c e)
 ·obtain ⟨e, n, ne, nf, d⟩ := I.pin p hp
  have nch : p.1 ∉ ch := fun z => (hch p.1 z).2.2.2 p hp rfl
  exact ⟨keep p.1 p.2 ne nf nch e n, free p.1 p.2 nch e n, ne, nf, d⟩
theorem Inv.un {t' : Nat} (I : Inv X pins σ H s) (u : Un X.fs [] H H' s.heap h') (hok : HOk X.prog X.w H' h') : Inv X pins σ H' { s with heap := h', toks := t' } := by
 obtain ⟨m, ⟨o, es, ep, ho, r⟩, _⟩ := id I.loc
 obtain ⟨sl, hL⟩ := u.any ho I.free (by simp)
 exact I.step (g' := s.gens) (d' := s.drawn) (ch := []) (fun _ z => nomatch z) (fun b o _ hb _ e n => u.keep b o e n hb (by simp)) (fun b o _ hb _ e n => u.slot b o e n hb (by simp)) (fun b o _ e n => u.free b o e n (by simp)) (fun b o _ e => u.there b o e (by simp)) u.tups u.frzs u.tbls (fun m' hm => by
  obtain ⟨o', es', ep', ho', r'⟩ := hm
  rw [ho] at ho'; cases ho'
  exact ⟨_, es', ep', hL, r'⟩) hok I.bare
theorem Inv.call {g' : Array GenState} {t' : Nat} {d' : Drawn} {ch : List Addr} (I : Inv X pins σ H s) (u : Un (frs X.stack) ch H H' s.heap h') (hok : HOk X.prog X.w H' h') (hg : AllBare g')
  (hch : ∀ b ∈ ch, (b ∈ X.ex \/ X.s₀.heap.objs.size <= b) /\ b ≠ X.env.locals /\ (∀ x c, X.env.cells.lookup x = some c -> c ≠ b) /\ ∀ p ∈ X.pn ++ pins, p.1 ≠ b) :
  Inv X pins σ H' { s with heap := h', gens := g', drawn := d', toks := t' } := by
 obtain ⟨m, ⟨o, es, ep, ho, r⟩, _⟩ := id I.loc
 obtain ⟨sl, hL⟩ := u.any ho I.free fun z => (hch _ z).2.1 rfl
 exact I.step (ch := ch) hch (fun b o hL hb hc e n => u.keep b o e n (fun z => (y09.mp (I.stkSub b z)).elim hL hb) hc) (fun b o _ _ hc e n => u.any e n hc) (fun b o hc e n => u.free b o e n hc) (fun b o hc e => u.there b o e hc) u.tups u.frzs u.tbls (fun m' hm => by
  obtain ⟨o', es', ep', ho', r'⟩ := hm
  rw [ho] at ho'; cases ho'
  exact ⟨_, es', ep', hL, r'⟩) hok hg
theorem Inv.turned {t' : Nat} {it : Addr} (I : Inv X pins σ H s) (k : ∀ b o, b ≠ it -> s.heap.get? b = some o -> h'.get? b = some o) (hn : H it = none) (hL : it ≠ X.env.locals)
  (h1 : it ∈ X.ex \/ X.s₀.heap.objs.size <= it) (h2 : ∀ x c, X.env.cells.lookup x = some c -> c ≠ it) (h3 : ∀ p ∈ X.pn ++ pins, p.1 ≠ it) : Inv X pins σ H { s with heap := h', toks := t' } := by
 have nit : ∀ b u, H b = some u -> b ≠ it := fun b u e z => by rw [z, hn] at e; cases e
 refine I.step (g' := s.gens) (d' := s.drawn) (ch := [it]) (fun b hb => ?_) (fun b o _ _ hc e _ => k b o (fun z => hc (by simp [z])) e) (fun b o _ _ hc e _ => ⟨o.slots, k b o (fun z => hc (by simp [z])) e⟩) (fun _ _ _ _ n => n)
  (fun b o hc e => ⟨o, k b o (fun z => hc (by simp [z])) e⟩) (fun _ _ e => e) (fun _ _ _ e => e) (fun b ps e => ⟨#[], by rw [e]; simp⟩) (fun m hm => ?_) (fun b u e => ?_) I.bare
 ·have e : b = it := by simpa using hb
  subst e
  exact ⟨h1, hL, h2, h3⟩
 ·obtain ⟨o, es, ep, ho, r⟩ := hm
  exact ⟨o, es, ep, k _ o (Ne.symm hL) ho, r⟩
 ·refine (I.hok b u e).stay (fun c v hc q => k c v ?_ q) (fun _ q => q) fun _ _ q => q
  rcases hc with z | z
  ·rw [z]; exact nit b u e
  ·exact nit c _ z
theorem Inv.tok (I : Inv X pins σ H s) (t : Nat) : Inv X pins σ H { s with toks := t } := I.un (h' := s.heap) (t' := t) Un.refl I.hok
theorem Inv.kept {t' : Nat} (I : Inv X pins σ H s) (k : ∀ b u, s.heap.get? b = some u -> h'.get? b = some u) : Inv X pins σ H { s with heap := h', toks := t' } := I.un (Un.kept k) (I.hok.kept k)
theorem Inv.laid {a : Addr} {o : HO} {t' : Nat} (I : Inv X pins σ H s) (k : ∀ b u, s.heap.get? b = some u -> h'.get? b = some u) (hp : s.heap.objs.size <= a) (new : z5b X.prog X.w (upd H a o) h' a o) :
  Inv X pins σ (upd H a o) { s with heap := h', toks := t' } := I.un (Un.laid k hp (I.hok.fresh hp)) (I.hok.laid k hp new)
theorem Inv.write {x e : Addr} {o : HO} {t' : Nat} (I : Inv X pins σ H s) (mu : Mut (H x)) (he : e = x \/ H e = some (.own x)) (k : ∀ b u, b ≠ e -> s.heap.get? b = some u -> h'.get? b = some u) (heo : ∃ u, h'.get? e = some u)
  (new : z5b X.prog X.w (upd H x o) h' x o) : Inv X pins σ (upd H x o) { s with heap := h', toks := t' } := I.un (Un.write mu he k heo) (I.hok.write mu he k heo new)
theorem Inv.pins_of {pins' : List (Addr × Obj)} (I : Inv X pins σ H s) (h : ∀ p ∈ pins', s.heap.get? p.1 = some p.2 /\ H p.1 = none /\ p.1 ≠ X.env.locals /\ p.1 ∉ X.fs /\ ∀ v, p.2.data ≠ .cell v) : Inv X pins' σ H s :=
 ⟨I.ok, I.os, I.bare, I.base, I.loc, I.cell, I.free, I.freeC, fun p hp => (y13.mp hp).elim (fun z => I.pin p (List.mem_append_left _ z)) (h p), I.hok, I.len⟩
theorem zhw {N : List Str} (hN : N.Nodup) {i j : Nat} {x : Str} (a : N[i]? = some x) (b : N[j]? = some x) : i = j := by
 obtain ⟨h1, e1⟩ := y0l.mp a
 obtain ⟨h2, e2⟩ := y0l.mp b
 exact (List.getElem_inj hN).mp (e1.trans e2.symm)
theorem ze8 {M : Model} {A : Around} {E : Value -> y04 -> Prop} {i : Nat} {x : Str} {v : V} {u : Value} {Q : Unit -> y04 -> Prop} (I : Inv X pins σ H s) (hN : X.N.Nodup) (hi : X.N[i]? = some x) (hx : Loc X.env.scope x) (r : RelV v u)
  (h : ∀ s', Inv X pins (σ.set i (some v)) H s' -> (∃ a, Heap.SameBut a s.heap s'.heap /\ (a = X.env.locals \/ X.env.cells.lookup x = some a)) -> Q () s') (hf : X.fn x = true \/ X.env.scope.names.lookup x = some .local := by first | exact .inl rfl | exact .inr rfl | assumption) : y0v M A (storeName X.env x u) Q E s := by
 obtain ⟨m, hn, hl⟩ := id I.loc
 have hcls : (X.env.scope.kind == .class || (X.env.scope.kind == .module && X.env.locals != X.env.globals)) = false := by rw [I.ok.kind]; rfl
 have hiσ : i < σ.length := by rw [I.len]; exact (y0l.mp hi).1
 have cne := I.cne
 have tracked : ∀ {a : Addr} {h' : Heap}, (∃ o, s.heap.get? a = some o /\ H a = none) -> Heap.SameBut a s.heap h' -> HOk X.prog X.w H h' := fun {a h'} ha hs b ob e => by
  obtain ⟨_, _, hfree⟩ := ha
  refine (I.hok b ob e).stay (fun c w' hc q => (hs.2 c ?_).trans q) (fun _ q => q) fun _ _ q => q
  rintro rfl
  rcases hc with rfl | hc
  ·rw [hfree] at e; cases e
  ·rw [hfree] at hc; cases hc
 rcases hx with hk | hk
 ·refine wpAny_storeName_local hk hn (fun h' hn' hs => ?_) hcls
  obtain ⟨oL, _, _, hoL, _⟩ := id hn
  refine h _ ⟨I.ok, I.os, I.bare, ⟨fun b o e n hb hx => ?_, fun b o e n hb hx => ?_, I.base.free, fun b o e hx => ?_, I.base.tups, I.base.frzs, I.base.tbls⟩, ⟨_, hn', fun j y v' e1 e2 e3 => ?_⟩, fun y c e => ?_, I.free, I.freeC, fun p hp => ?_, tracked ⟨oL, hoL, I.free⟩ hs, by simpa using I.len⟩ ⟨_, hs, .inl rfl⟩
  ·exact (hs.2 b (y10 (y0y (y0c e) I.ok.above))).trans (I.base.keep b o e n hb hx)
  ·obtain ⟨sl, e1⟩ := I.base.slot b o e n hb hx
   exact ⟨sl, (hs.2 b (y10 (y0y (y0c e) I.ok.above))).trans e1⟩
  ·obtain ⟨o', e1⟩ := I.base.there b o e hx
   exact ⟨o', (hs.2 b (y10 (y0y (y0c e) I.ok.above))).trans e1⟩
  ·by_cases hj : j = i
   ·subst hj
    rw [hi] at e1; cases e1
    rw [List.getElem?_set_self hiσ] at e2
    cases e2
    exact ⟨u, r, .inl ⟨hk, by simp⟩⟩
   ·rw [List.getElem?_set_ne (Ne.symm hj)] at e2
    obtain ⟨u', r', q⟩ := hl j y v' e1 e2 e3
    refine ⟨u', r', ?_⟩
    rcases q with ⟨k, e⟩ | ⟨k, c, e, z⟩
    ·refine .inl ⟨k, ?_⟩
     have : y ≠ x := fun e => hj (zhw hN e1 (e ▸ hi))
     simp [this, e]
    ·exact .inr ⟨k, c, e, z.sameBut hs (cne y c e)⟩
  ·obtain ⟨w', z⟩ := I.cell y c e
   exact ⟨w', z.sameBut hs (cne y c e)⟩
  ·obtain ⟨e, n, ne, nf, d⟩ := I.pin p hp
   exact ⟨(hs.2 p.1 ne).trans e, n, ne, nf, d⟩
 ·have hfn : X.fn x = true := by
   rcases hf with z | z
   ·exact z
   ·rw [z] at hk; cases hk
  obtain ⟨c, hc⟩ := I.ok.has x (.inl hk)
  obtain ⟨w', z⟩ := I.cell x c hc
  refine wpAny_storeName_cell I.ok.kind hk hc z (fun h' hc' hs => ?_)
  obtain ⟨oc, hoc, hocd⟩ := id z
  refine h { s with heap := h' } ⟨I.ok, I.os, I.bare, ⟨fun b o e n hb hx => ?_, fun b o e n hb hx => ?_, I.base.free, fun b o e hx => ?_, I.base.tups, I.base.frzs, I.base.tbls⟩, ⟨m, hn.sameBut hs (Ne.symm (cne x c hc)), fun j y v' e1 e2 e3 => ?_⟩, fun y c' e => ?_, I.free, I.freeC, fun p hp => ?_, tracked ⟨oc, hoc, I.freeC x c hc⟩ hs, by simpa using I.len⟩ ⟨c, hs, .inr hc⟩
  ·exact (hs.2 b (y10 (y0y (y0c e) (I.ok.cab x c hfn hc)))).trans (I.base.keep b o e n hb hx)
  ·obtain ⟨sl, e1⟩ := I.base.slot b o e n hb hx
   exact ⟨sl, (hs.2 b (y10 (y0y (y0c e) (I.ok.cab x c hfn hc)))).trans e1⟩
  ·obtain ⟨o', e1⟩ := I.base.there b o e hx
   exact ⟨o', (hs.2 b (y10 (y0y (y0c e) (I.ok.cab x c hfn hc)))).trans e1⟩
  ·by_cases hj : j = i
   ·subst hj
    rw [hi] at e1; cases e1
    rw [List.getElem?_set_self hiσ] at e2
    cases e2
    exact ⟨u, r, .inr ⟨.inl hk, c, hc, hc'⟩⟩
   ·rw [List.getElem?_set_ne (Ne.symm hj)] at e2
    obtain ⟨u', r', q⟩ := hl j y v' e1 e2 e3
    refine ⟨u', r', ?_⟩
    rcases q with q | ⟨k, c', e, z'⟩
    ·exact .inl q
    ·refine .inr ⟨k, c', e, z'.sameBut hs ?_⟩
     rintro rfl
     exact hj (zhw hN e1 (I.ok.inj _ _ _ e hc ▸ hi))
  ·by_cases hcc : c' = c
   ·subst hcc; exact ⟨_, hc'⟩
   ·obtain ⟨w2, z2⟩ := I.cell y c' e
    exact ⟨w2, z2.sameBut hs hcc⟩
  ·obtain ⟨e, n, ne, nf, d⟩ := I.pin p hp
   refine ⟨(hs.2 p.1 ?_).trans e, n, ne, nf, d⟩
   intro q
   rw [q, hoc] at e
   have q' : oc = p.2 := Option.some.inj e
   exact d w' (by rw [<- q']; exact hocd)
theorem zhk {M : Model} {A : Around} {E : Value -> y04 -> Prop} {i : Nat} {x : Str} {v : V} {u : Value} {Q : Unit -> y04 -> Prop} (I : Inv X pins σ H s) (hN : X.N.Nodup) (hi : X.N[i]? = some x) (hx : Loc X.env.scope x) (r : RelV v u)
  (h : ∀ s', Inv X pins (σ.set i (some v)) H s' -> Q () s') (hf : X.fn x = true \/ X.env.scope.names.lookup x = some .local := by first | exact .inl rfl | exact .inr rfl | assumption) : y0v M A (storeName X.env x u) Q E s :=
 ze8 I hN hi hx r (fun s' I' _ => h s' I') hf
end
abbrev XK := Value -> Option Addr -> Hp -> Prop
abbrev St := List (Option V)
abbrev VK := V -> Hp -> Prop
abbrev TE := St -> Hp -> VK -> Prop
abbrev TT := St -> Hp -> (Bool -> Hp -> Prop) -> Prop
abbrev TA := St -> Hp -> (List V -> Hp -> Prop) -> Prop
structure Ends where
 nx : St -> Hp -> Prop
 rt : VK
 bk : St -> Hp -> Prop := fun _ _ => False
 ct : St -> Hp -> Prop := fun _ _ => False
abbrev TS := Ends -> St -> Hp -> Prop
def EP (X : Cx) (pins : List (Addr × Obj)) (σ : St) (Q : VK) (u : Value) (s' : y04) : Prop := ∃ v H', Inv X pins σ H' s' /\ RelV v u /\ Q v H'
def TP (X : Cx) (pins : List (Addr × Obj)) (σ : St) (Q : Bool -> Hp -> Prop) (b : Bool) (s' : y04) : Prop := ∃ H', Inv X pins σ H' s' /\ Q b H'
def AP (X : Cx) (pins : List (Addr × Obj)) (σ : St) (Q : List V -> Hp -> Prop) (us : List Value) (s' : y04) : Prop := ∃ vs H', Inv X pins σ H' s' /\ Vals vs us /\ Q vs H'
def SP (X : Cx) (pins : List (Addr × Obj)) (D : Ends) (f : Flow) (s' : y04) : Prop :=
 match f with
 | .next => ∃ σ' H', Inv X pins σ' H' s' /\ D.nx σ' H'
 | .brk => ∃ σ' H', Inv X pins σ' H' s' /\ D.bk σ' H'
 | .cont => ∃ σ' H', Inv X pins σ' H' s' /\ D.ct σ' H'
 | .ret u => ∃ v σ' H', Inv X pins σ' H' s' /\ RelV v u /\ D.rt v H'
def PE (X : Cx) (e : Expr) (t : TE) : Prop :=
 ∀ (pins : List (Addr × Obj)) (s : y04) (σ : St) (H : Hp) (Q : VK), Inv X pins σ H s -> t σ H Q -> y0v (model X.prog X.w) X.A (eval e X.env) (EP X pins σ Q) X.xe s
def PT (X : Cx) (e : Expr) (t : TT) : Prop :=
 ∀ (pins : List (Addr × Obj)) (s : y04) (σ : St) (H : Hp) (Q : Bool -> Hp -> Prop), Inv X pins σ H s -> t σ H Q -> y0v (model X.prog X.w) X.A (isTrue e X.env (eval e X.env)) (TP X pins σ Q) X.xe s
def PW (X : Cx) (e : Expr) (t : TT) : Prop :=
 ∀ (whole : Sem Value) (pins : List (Addr × Obj)) (s : y04) (σ : St) (H : Hp) (Q : Bool -> Hp -> Prop), Inv X pins σ H s -> t σ H Q -> y0v (model X.prog X.w) X.A (isTrue e X.env whole) (TP X pins σ Q) X.xe s
theorem PW.pt {X : Cx} {e : Expr} {t : TT} (h : PW X e t) : PT X e t := h _
def PA (X : Cx) (es : List Expr) (t : TA) : Prop :=
 ∀ (pos : Pos) (pins : List (Addr × Obj)) (s : y04) (σ : St) (H : Hp) (Q : List V -> Hp -> Prop), Inv X pins σ H s -> t σ H Q -> y0v (model X.prog X.w) X.A (spliced (backTo pos (y0a es X.env))) (AP X pins σ Q) X.xe s
def PS (X : Cx) (st : Stmt) (t : TS) : Prop :=
 ∀ (pins : List (Addr × Obj)) (s : y04) (σ : St) (H : Hp) (D : Ends), Inv X pins σ H s -> t D σ H -> y0v (model X.prog X.w) X.A (exec st X.env) (SP X pins D) X.xe s
def PSs (X : Cx) (st : List Stmt) (t : TS) : Prop :=
 ∀ (pins : List (Addr × Obj)) (s : y04) (σ : St) (H : Hp) (D : Ends), Inv X pins σ H s -> t D σ H -> y0v (model X.prog X.w) X.A (execs st X.env) (SP X pins D) X.xe s
theorem thn {α : Type} {t : Sem α} {Q Q' : α -> y04 -> Prop} {M : Model} {A : Around} {E : Value -> y04 -> Prop} {s : y04} (h : y0v M A t Q E s) (hQ : ∀ a s, Q a s -> Q' a s) : y0v M A t Q' E s := y1g h hQ fun _ _ x => x
end L2
namespace L2
open PySem PySem.Spec PyProof.Rows
section
variable {X : Cx}
def tVar (i : Nat) : TE := fun σ H Q => ∃ v, σ[i]? = some (some v) /\ Q v H
def tC (v : V) : TE := fun _ H Q => Q v H
theorem zrb {i : Nat} {x : Str} {pos : Pos} (hN : X.N[i]? = some x) (hv : Vis X.env.scope x) (hd : (x == ("__debug__" : Str)) = false := by decide) (hcd : (x == ("__classdict__" : Str)) = false := by decide) : PE X (.Name x pos) (tVar i) := by
 intro pins s σ H Q I h
 obtain ⟨v, e, h⟩ := h
 obtain ⟨m, hn, hl⟩ := I.loc
 obtain ⟨u, r, l⟩ := hl i x v hN e hv
 have fin : EP X pins σ Q u s := ⟨v, H, I, r, h⟩
 rcases l with ⟨hk, hm⟩ | ⟨hk, c, hc, hcell⟩
 ·exact wpAny_Name (wpAny_loadName_local I.ok.kind hk hn hm fin) hd
 ·rcases hk with hk | hk
  ·exact wpAny_Name (wpAny_loadName_cell I.ok.kind hk hc hcell fin) hd
  ·exact wpAny_Name (wpAny_loadName_free I.ok.kind hk hc hcell fin hcd) hd
theorem zrg {i j pos} : PE X (.Constant (.int i) j pos) (tC (.int i)) := fun _ _ _ H _ I h => wpAny_Constant_int ⟨.int i, H, I.tok _, ⟨_, rfl⟩, h⟩
theorem zt2 {b j pos} : PE X (.Constant (.bool b) j pos) (tC (.bl b)) := fun _ _ _ H _ I h => Constant_bool ⟨.bl b, H, I, rfl, h⟩
theorem zre {j pos} : PE X (.Constant .none j pos) (tC .non) := fun _ _ _ H _ I h => Constant_none ⟨.non, H, I, rfl, h⟩
theorem zrd {x j pos} : PE X (.Constant (.str x) j pos) (tC (.str x)) := fun _ _ _ H _ I h => Calls.Constant_str ⟨.str x, H, I.tok _, ⟨_, rfl⟩, h⟩
def Gl (X : Cx) (x : Str) : Prop := X.env.kindOf x = some .globalImplicit
theorem zgy {E : Value -> y04 -> Prop} {pins : List (Addr × Obj)} {s : y04} {σ : St} {H : Hp} {x : Str} {u : Value} {pos : Pos} {Q : Value -> y04 -> Prop} (I : Inv X pins σ H s) (hg : Gl X x) (hm : X.mg x = some u) (h : Q u s)
  (hd : (x == ("__debug__" : Str)) = false := by decide) : y0v (model X.prog X.w) X.A (eval (.Name x pos) X.env) Q E s :=
 Calls.Name_function_global I.ok.kind hg (Calls.loadGlobal_global (by rw [I.ok.glob]; exact I.mod.glob.keeps I.bk) hm h) hd
theorem zcs {E : Value -> y04 -> Prop} {pins : List (Addr × Obj)} {s : y04} {σ : St} {H : Hp} {x : Str} {u : Value} {pos : Pos} {Q : Value -> y04 -> Prop} (I : Inv X pins σ H s) (hg : Gl X x) (hm : X.mg x = none) (hv : bootBuiltins x = some u) (h : Q u s)
  (hn : x ≠ "__name__" := by decide) (hd : (x == ("__debug__" : Str)) = false := by decide) : y0v (model X.prog X.w) X.A (eval (.Name x pos) X.env) Q E s := by
 obtain ⟨mb, h1, h2⟩ := I.mod.blt
 exact Calls.Name_function_global I.ok.kind hg (Calls.loadGlobal_builtin (by rw [I.ok.glob]; exact I.mod.glob.keeps I.bk) hm (by rw [I.ok.blt]; exact h1.keeps I.bk) ((h2 x hn).trans hv) h) hd
theorem zkp {x : Str} {v : V} {u : Value} {pos : Pos} (hg : Gl X x) (hm : X.mg x = some u) (r : RelV v u) (hd : (x == ("__debug__" : Str)) = false := by decide) : PE X (.Name x pos) (tC v) :=
 fun _ _ _ H _ I h => zgy I hg hm ⟨v, H, I, r, h⟩ hd
variable {a b : Expr} {ta tb : TE} {pos : Pos}
def PC (X : Cx) (op : CmpOp) (a b : Expr) (t : TE) : Prop :=
 ∀ (pins : List (Addr × Obj)) (s : y04) (σ : St) (H : Hp) (Q : VK), Inv X pins σ H s -> t σ H Q ->
  y0v (model X.prog X.w) X.A (eval a X.env) (fun v s₁ => y0v (model X.prog X.w) X.A (eval b X.env) (fun u s₂ => y0v (model X.prog X.w) X.A (compareOp op v u) (EP X pins σ Q) X.xe s₂) X.xe s₁) X.xe s
theorem zhx (b : Expr) {op : CmpOp} (h : op ≠ .In) (h2 : op ≠ .NotIn) : behindInMarks op b = false := by
 have e1 : (op == CmpOp.In) = false := by cases op <;> first | rfl | exact absurd rfl h
 have e2 : (op == CmpOp.NotIn) = false := by cases op <;> first | rfl | exact absurd rfl h2
 cases b <;> simp [behindInMarks, e1, e2]
def tIsN (ta : TE) : TE := fun σ H Q => ta σ H fun x H1 => Q (.bl (decide (x = .non))) H1
def zsc (ta : TE) : TE := fun σ H Q => ta σ H fun x H1 => Q (.bl (!decide (x = .non))) H1
theorem RelV.none_iff {x : V} {v : Value} (r : RelV x v) : (v == Value.none) = decide (x = .non) := by
 cases x with
 | non => cases r; rfl
 | bl _ => cases r; rfl
 | int _ => obtain ⟨t, rfl⟩ := r; rfl
 | str _ => obtain ⟨t, rfl⟩ := r; rfl
 | byt _ => obtain ⟨t, rfl⟩ := r; rfl
 | flt _ => obtain ⟨t, rfl⟩ := r; rfl
 | ref _ => cases r; rfl
 | ty _ => cases r; rfl
theorem zrk {j pos'} (ha : PE X a ta) : PC X .Is a (.Constant .none j pos') (tIsN ta) := by
 intro pins s σ H Q I h
 refine thn (ha pins s σ H _ I h) fun v s1 ⟨x, H1, I1, r1, q1⟩ => ?_
 exact Constant_none (is_none_gen ⟨.bl _, H1, I1, by rw [r1.none_iff]; rfl, q1⟩)
theorem zpj {j pos'} (ha : PE X a ta) : PC X .IsNot a (.Constant .none j pos') (zsc ta) := by
 intro pins s σ H Q I h
 refine thn (ha pins s σ H _ I h) fun v s1 ⟨x, H1, I1, r1, q1⟩ => ?_
 exact Constant_none (isnot_none_gen ⟨.bl _, H1, I1, by rw [r1.none_iff]; rfl, q1⟩)
def tB (t : TE) : TT := fun σ H Q => t σ H fun x H1 => ∃ c, x = .bl c /\ Q c H1
theorem zrh {op : CmpOp} {t : TE} (h : PC X op a b t) (h1 : behindInMarks op b = false := by first | exact zhx _ (by decide) (by decide) | rfl) : PE X (.Compare a [op] [b] pos) t := fun pins s σ H Q I hw => wpAny_Compare1 (h pins s σ H Q I hw) h1
theorem zr8 {op : CmpOp} {t : TE} (h : PC X op a b t) (h1 : behindInMarks op b = false := by first | exact zhx _ (by decide) (by decide) | rfl) : PT X (.Compare a [op] [b] pos) (tB t) := by
 intro pins s σ H Q I hw
 refine wpAny_isTrue_Compare1 (thn (h pins s σ H _ I hw) fun v s1 h1 => thn h1 fun u s2 h2 => thn h2 fun c s3 ⟨x, H1, I1, r1, q1⟩ => ?_) h1
 obtain ⟨d, rfl, q⟩ := q1
 cases r1
 exact wpAny_truthy_bool ⟨H1, I1, q⟩
theorem zr7 {e : Expr} {t : TE} (h : PE X e t) (he : ∀ whole, isTrue e X.env whole = (do let v <- whole; standAt e.pos; holding [v] (truthy v)) := by intro _; rfl) : PT X e (tB t) := by
 intro pins s σ H Q I hw
 refine isTrue_plain (thn (h pins s σ H _ I hw) fun v s1 ⟨x, H1, I1, r1, q1⟩ => ?_) (he _)
 obtain ⟨d, rfl, q⟩ := q1
 cases r1
 exact wpAny_truthy_bool ⟨H1, I1, q⟩
variable {tA tB' : TT} {rest : List Expr}
def tAnd (t u : TT) : TT := fun σ H Q => t σ H fun c H1 => if c = true then u σ H1 Q else Q false H1
def tOr (t u : TT) : TT := fun σ H Q => t σ H fun c H1 => if c = true then Q true H1 else u σ H1 Q
theorem zp2 (ha : PT X a tA) : PW X (.BoolOp .And [a] pos) tA := by
 intro wh pins s σ H Q I h
 refine isTrue_and (thn (ha pins s σ H Q I h) fun c s1 e => ?_)
 cases c with
 | true => exact isTrue_and_nil e
 | false => exact e
theorem zr3 (ha : PT X a tA) : PW X (.BoolOp .Or [a] pos) tA := by
 intro wh pins s σ H Q I h
 refine isTrue_or (thn (ha pins s σ H Q I h) fun c s1 e => ?_)
 cases c with
 | false => exact isTrue_or_nil e
 | true => exact e
theorem zr4 (ha : PT X a tA) (hb : PW X (.BoolOp .And (b :: rest) pos) tB') : PW X (.BoolOp .And (a :: b :: rest) pos) (tAnd tA tB') := by
 intro wh pins s σ H Q I h
 refine isTrue_and (thn (ha pins s σ H _ I h) fun c s1 ⟨H1, I1, q1⟩ => ?_)
 cases c with
 | true => exact hb wh pins s1 σ H1 Q I1 q1
 | false => exact ⟨H1, I1, q1⟩
theorem zsw (ha : PT X a tA) (hb : PW X (.BoolOp .Or (b :: rest) pos) tB') : PW X (.BoolOp .Or (a :: b :: rest) pos) (tOr tA tB') := by
 intro wh pins s σ H Q I h
 refine isTrue_or (thn (ha pins s σ H _ I h) fun c s1 ⟨H1, I1, q1⟩ => ?_)
 cases c with
 | true => exact ⟨H1, I1, q1⟩
 | false => exact hb wh pins s1 σ H1 Q I1 q1
def zsj (ta tb : TE) : TE := fun σ H Q => ta σ H fun x H1 => ∃ c, x = .bl c /\ if c = true then tb σ H1 Q else Q (.bl false) H1
def tOrV (ta tb : TE) : TE := fun σ H Q => ta σ H fun x H1 => ∃ c, x = .bl c /\ if c = true then Q (.bl true) H1 else tb σ H1 Q
theorem zo5 {op} {t : TE} (h : PE X a t) : PE X (.BoolOp op [a] pos) t := fun pins s σ H Q I hw => BoolOp_one (h pins s σ H Q I hw)
theorem zrj (ha : PE X a ta) (hb : PE X (.BoolOp .And (b :: rest) pos) tb) : PE X (.BoolOp .And (a :: b :: rest) pos) (zsj ta tb) := by
 intro pins s σ H Q I h
 refine BoolOp_and (thn (ha pins s σ H _ I h) fun v s1 ⟨x, H1, I1, r1, q1⟩ => ?_)
 obtain ⟨c, rfl, q1⟩ := q1
 cases r1
 refine wpAny_truthy_bool ?_
 cases c with
 | true => exact hb pins s1 σ H1 Q I1 q1
 | false => exact ⟨.bl false, H1, I1, rfl, q1⟩
theorem zt0 (ha : PE X a ta) (hb : PE X (.BoolOp .Or (b :: rest) pos) tb) : PE X (.BoolOp .Or (a :: b :: rest) pos) (tOrV ta tb) := by
 intro pins s σ H Q I h
 refine BoolOp_or (thn (ha pins s σ H _ I h) fun v s1 ⟨x, H1, I1, r1, q1⟩ => ?_)
 obtain ⟨c, rfl, q1⟩ := q1
 cases r1
 refine wpAny_truthy_bool ?_
 cases c with
 | false => exact hb pins s1 σ H1 Q I1 q1
 | true => exact ⟨.bl true, H1, I1, rfl, q1⟩
def tIf (t : TT) (ta tb : TE) : TE := fun σ H Q => t σ H fun c H1 => if c = true then ta σ H1 Q else tb σ H1 Q
theorem zmw {c : Expr} (hc : PT X c tA) (ha : PE X a ta) (hb : PE X b tb) : PE X (.IfExp c a b pos) (tIf tA ta tb) := by
 intro pins s σ H Q I h
 refine wpAny_IfExp (thn (hc pins s σ H _ I h) fun d s1 ⟨H1, I1, q1⟩ => ?_)
 cases d with
 | true => exact ha pins s1 σ H1 Q I1 q1
 | false => exact hb pins s1 σ H1 Q I1 q1
end
end L2
namespace L2
open PySem PySem.Spec PyProof.Rows
def SqL (K : y00) (H : Hp) (a : Addr) (xs : List V) : Prop :=
 Rd H a (.lst xs) \/
  ∃ (o : Obj) (its : Array Value) (n : Nat), K.lookup a = some o /\ o.cls = .type "list" /\ o.dict = none /\ o.data = .seq its n /\ its.size <= y0k /\ Vals xs its.toList
def SqT (K : y00) (H : Hp) (a : Addr) (xs : List V) : Prop :=
 Rd H a (.tup xs) \/
  ∃ (o : Obj) (its : Array Value) (n : Nat), K.lookup a = some o /\ o.cls = .type "tuple" /\ o.data = .seq its n /\ its.size <= y0k /\ Vals xs its.toList
def absV : Value -> Option V
 | .none => some .non
 | .bool b => some (.bl b)
 | .int i _ => some (.int i)
 | .str x _ => some (.str x)
 | .bytes b _ => some (.byt b)
 | .float b _ => some (.flt b)
 | .ref a => some (.ref a)
 | .type n => some (.ty n)
 | _ => none
theorem RelV.abs {x : V} {u : Value} (r : RelV x u) : absV u = some x := by
 cases x with
 | non => cases r; rfl
 | bl _ => cases r; rfl
 | int _ => obtain ⟨t, rfl⟩ := r; rfl
 | str _ => obtain ⟨t, rfl⟩ := r; rfl
 | byt _ => obtain ⟨t, rfl⟩ := r; rfl
 | flt _ => obtain ⟨t, rfl⟩ := r; rfl
 | ref _ => cases r; rfl
 | ty _ => cases r; rfl
theorem RelV.inj {x y : V} {u : Value} (r : RelV x u) (q : RelV y u) : x = y := Option.some.inj (r.abs.symm.trans q.abs)
theorem Vals.inj : ∀ {xs ys : List V} {us : List Value}, Vals xs us -> Vals ys us -> xs = ys
 | _, _, _, .nil, .nil => rfl
 | _, _, _, .cons r t, .cons r' t' => by rw [r.inj r', Vals.inj t t']
section
variable {X : Cx} {pins : List (Addr × Obj)} {σ : St} {H : Hp} {s : y04} {a : Addr} {xs ys : List V}
theorem SqL.of {K : y00} (h : H a = some (.lst xs)) : SqL K H a xs := .inl (.inl h)
theorem SqT.of {K : y00} (h : H a = some (.tup xs)) : SqT K H a xs := .inl (.inl h)
theorem Inv.list (I : Inv X pins σ H s) (h : SqL X.K H a xs) : ∃ its : List Value, Vals xs its /\ PlainL s.heap a its.toArray /\ xs.length <= y0k := by
 rcases h with h | ⟨o, its, n, hk, hc, hd, hs, hz, r⟩
 ·obtain ⟨z, its, n, r, e⟩ := h.ok I.hok
  exact ⟨its, r, ⟨_, n, e, rfl, rfl, rfl⟩, z⟩
 ·refine ⟨its.toList, r, ⟨o, n, I.kIn a o hk, hc, hd, by simpa using hs⟩, ?_⟩
  have e := r.length
  simp only [y27] at e
  omega
theorem Inv.tuple (I : Inv X pins σ H s) (h : SqT X.K H a xs) : ∃ its : List Value, Vals xs its /\ IsTup s.heap a its.toArray /\ xs.length <= y0k := by
 rcases h with h | ⟨o, its, n, hk, hc, hs, hz, r⟩
 ·obtain ⟨z, its, r, p⟩ := h.ok I.hok
  exact ⟨its, r, p, z⟩
 ·refine ⟨its.toList, r, ⟨o, I.kIn a o hk, hc, n, by simpa using hs⟩, ?_⟩
  have e := r.length
  simp only [y27] at e
  omega
theorem Inv.list_inj (I : Inv X pins σ H s) (h : SqL X.K H a xs) (h' : SqL X.K H a ys) : xs = ys := by
 obtain ⟨its, r, ⟨o, n, e, _, _, d⟩, _⟩ := I.list h
 obtain ⟨its', r', ⟨o', n', e', _, _, d'⟩, _⟩ := I.list h'
 rw [e] at e'; cases e'
 rw [d] at d'
 injection d' with d1 _
 have : its = its' := by simpa using congrArg Array.toList d1
 subst this
 exact r.inj r'
theorem Inv.tuple_inj (I : Inv X pins σ H s) (h : SqT X.K H a xs) (h' : SqT X.K H a ys) : xs = ys := by
 obtain ⟨its, r, ⟨o, e, _, n, d⟩, _⟩ := I.tuple h
 obtain ⟨its', r', ⟨o', e', _, n', d'⟩, _⟩ := I.tuple h'
 rw [e] at e'; cases e'
 rw [d] at d'
 injection d' with d1 _
 have : its = its' := by simpa using congrArg Array.toList d1
 subst this
 exact r.inj r'
end
abbrev Cx.wish (X : Cx) (E : Value -> y04 -> Prop) : Cx := { X with xe := E }
abbrev Cx.nox (X : Cx) : Cx := X.wish fun _ _ => False
theorem Cx.Ok.wish {X : Cx} (ok : X.Ok) (E : Value -> y04 -> Prop) : (X.wish E).Ok :=
 ⟨ok.mod, ok.kind, ok.glob, ok.blt, ok.above, ok.inj, ok.has, ok.cab, ok.hd, ok.frames, ok.stk, ok.exf, ok.bs, ok.bsz, ok.noex, ok.exfs, ok.funs, ok.frf⟩
theorem Cx.Ok.unwish {X : Cx} {E : Value -> y04 -> Prop} (ok : (X.wish E).Ok) : X.Ok :=
 ⟨ok.mod, ok.kind, ok.glob, ok.blt, ok.above, ok.inj, ok.has, ok.cab, ok.hd, ok.frames, ok.stk, ok.exf, ok.bs, ok.bsz, ok.noex, ok.exfs, ok.funs, ok.frf⟩
section
variable {X : Cx} {pins : List (Addr × Obj)} {σ : St} {H : Hp} {s : y04} {E : Value -> y04 -> Prop}
theorem Inv.wish (I : Inv X pins σ H s) (E : Value -> y04 -> Prop) : Inv (X.wish E) pins σ H s := ⟨I.ok.wish E, I.os, I.bare, I.base, I.loc, I.cell, I.free, I.freeC, I.pin, I.hok, I.len⟩
theorem Inv.unwish (I : Inv (X.wish E) pins σ H s) : Inv X pins σ H s := ⟨I.ok.unwish, I.os, I.bare, I.base, I.loc, I.cell, I.free, I.freeC, I.pin, I.hok, I.len⟩
theorem SP.unwish {D : Ends} {f : Flow} {s' : y04} (h : SP (X.wish E) pins D f s') : SP X pins D f s' := by
 cases f with
 | next => obtain ⟨σ', H', I, q⟩ := h; exact ⟨σ', H', I.unwish, q⟩
 | brk => obtain ⟨σ', H', I, q⟩ := h; exact ⟨σ', H', I.unwish, q⟩
 | cont => obtain ⟨σ', H', I, q⟩ := h; exact ⟨σ', H', I.unwish, q⟩
 | ret u => obtain ⟨v, σ', H', I, r, q⟩ := h; exact ⟨v, σ', H', I.unwish, r, q⟩
theorem PSs.nox {st : List Stmt} {t : TS} (h : PSs X.nox st t) : PSs X st t := fun pins s σ H D I hw =>
 y1g (h pins s σ H D (I.wish _) hw) (fun _ _ q => q.unwish) fun _ _ z => y24 z
end
section
variable {X : Cx} {st : Stmt} {rest : List Stmt} {t u : TS} {e : Expr} {te : TE} {pos : Pos}
def zsd : TS := fun D σ H => D.nx σ H
def tSeq (t u : TS) : TS := fun D σ H => t { D with nx := u D } σ H
theorem zp5 : PSs X [] zsd := fun _ _ σ H _ I h => wpAny_execs_nil ⟨σ, H, I, h⟩
theorem zms (h1 : PS X st t) (h2 : PSs X rest u) : PSs X (st :: rest) (tSeq t u) := by
 intro pins s σ H D I h
 refine wpAny_execs_cons (thn (h1 pins s σ H { D with nx := u D } I h) fun f s1 q => ?_)
 cases f with
 | next =>
  obtain ⟨σ', H', I', q⟩ := q
  exact h2 pins s1 σ' H' D I' q
 | ret v => exact q
 | brk => exact q
 | cont => exact q
theorem zp4 (h1 : PS X st t) : PSs X [st] t := by
 intro pins s σ H D I h
 refine wpAny_execs_cons (thn (h1 pins s σ H D I h) fun f s1 q => ?_)
 cases f with
 | next => exact wpAny_execs_nil q
 | ret v => exact q
 | brk => exact q
 | cont => exact q
theorem Inv.quiet {pins : List (Addr × Obj)} {σ : St} {H : Hp} {s : y04} (I : Inv X pins σ H s) : interactive X.env = false := by simp [interactive, I.ok.kind]
def zsf (te : TE) : TS := fun D σ H => te σ H fun _ H1 => D.nx σ H1
theorem zdh (he : PE X e te) (hs : swapsWith e none pos.line X.env = pure false := by rfl) : PS X (.Expr e pos) (zsf te) := by
 intro pins s σ H D I h
 exact wpAny_Expr_any (thn (he pins s σ H _ I h) fun v s1 ⟨x, H1, I1, r1, q1⟩ => ⟨σ, H1, I1, q1⟩) I.quiet hs
def tRet (te : TE) : TS := fun D σ H => te σ H D.rt
theorem zkj (he : PE X e te) : PS X (.Return (some e) pos) (tRet te) := by
 intro pins s σ H D I h
 exact wpAny_Return_some (thn (he pins s σ H _ I h) fun v s1 ⟨x, H1, I1, r1, q1⟩ => ⟨x, σ, H1, I1, r1, q1⟩)
def zsa : TS := fun D _ H => D.rt .non H
theorem zp6 : PS X (.Return none pos) zsa := fun _ _ σ H _ I h => wpAny_Return_none ⟨.non, σ, H, I, rfl, h⟩
def tIfS (c : TT) (t u : TS) : TS := fun D σ H => c σ H fun b H1 => if b = true then t D σ H1 else u D σ H1
theorem zsx {c : Expr} {a b : List Stmt} {tc : TT} (hc : PT X c tc) (ha : PSs X a t) (hb : PSs X b u) : PS X (.If c a b pos) (tIfS tc t u) := by
 intro pins s σ H D I h
 refine wpAny_If (thn (hc pins s σ H _ I h) fun d s1 ⟨H1, I1, q1⟩ => ?_)
 cases d with
 | true => exact ha pins s1 σ H1 D I1 q1
 | false => exact hb pins s1 σ H1 D I1 q1
end
abbrev TG := V -> St -> Hp -> (St -> Hp -> Prop) -> Prop
abbrev TGs := List V -> St -> Hp -> (St -> Hp -> Prop) -> Prop
def PG (X : Cx) (target : Expr) (t : TG) : Prop :=
 ∀ (pins : List (Addr × Obj)) (s : y04) (σ : St) (H : Hp) (v : V) (u : Value) (Q : St -> Hp -> Prop), Inv X pins σ H s -> RelV v u -> t v σ H Q ->
  y0v (model X.prog X.w) X.A (assign target X.env u) (fun _ s' => ∃ σ' H', Inv X pins σ' H' s' /\ Q σ' H') X.xe s
def PGs (X : Cx) (ts : List Expr) (t : TGs) : Prop :=
 ∀ (pins : List (Addr × Obj)) (s : y04) (σ : St) (H : Hp) (vs : List V) (us : List Value) (Q : St -> Hp -> Prop), Inv X pins σ H s -> Vals vs us -> t vs σ H Q ->
  y0v (model X.prog X.w) X.A (assignInOrder ((assignEach ts X.env).map (·.2)) us) (fun _ s' => ∃ σ' H', Inv X pins σ' H' s' /\ Q σ' H') X.xe s
section
variable {X : Cx} {pos : Pos}
def zrz (i : Nat) : TG := fun v σ H Q => Q (σ.set i (some v)) H
theorem zpe {i : Nat} {x : Str} (hN : X.N.Nodup) (hi : X.N[i]? = some x) (hx : Loc X.env.scope x) (hf : X.fn x = true \/ X.env.scope.names.lookup x = some .local := by first | exact .inl rfl | exact .inr rfl | assumption) : PG X (.Name x pos) (zrz i) := by
 intro pins s σ H v u Q I r h
 exact wpAny_assign_Name (zhk I hN hi hx r (fun s' I' => ⟨_, H, I', h⟩) hf)
def gNil : TGs := fun vs σ H Q => vs = [] /\ Q σ H
def zt8 (t : TG) (u : TGs) : TGs := fun vs σ H Q => ∃ v r, vs = v :: r /\ t v σ H fun σ' H' => u r σ' H' Q
theorem zpd : PGs X [] gNil := by
 intro pins s σ H vs us Q I r h
 obtain ⟨e, h⟩ := h
 subst e
 cases r
 exact assignInOrder_nil ⟨σ, H, I, h⟩
theorem zmu {e : Expr} {es : List Expr} {t : TG} {u : TGs} (h1 : PG X e t) (h2 : PGs X es u)
  (hs : (assignEach (e :: es) X.env).map (·.2) = assign e X.env :: (assignEach es X.env).map (·.2) := by rfl) : PGs X (e :: es) (zt8 t u) := by
 intro pins s σ H vs us Q I r h
 obtain ⟨v, vr, e1, h⟩ := h
 subst e1
 cases r with
 | cons r rr =>
  rw [hs]
  refine assignInOrder_cons (thn (h1 pins s σ H _ _ _ I r h) fun _ s1 ⟨σ1, H1, I1, q1⟩ => ?_)
  exact h2 pins s1 σ1 H1 _ _ Q I1 rr q1
def gTup (K : y00) (n : Nat) (t : TGs) : TG := fun v σ H Q => ∃ a xs, v = .ref a /\ SqT K H a xs /\ xs.length = n /\ t xs σ H Q
theorem zra {es : List Expr} {k : Nat} {t : TGs} {n : Nat} (hc : X.calm = true) (h : PGs X es t)
  (hn : (assignEach es X.env).length = n := by rfl) (hst : (assignEach es X.env).findIdx? (·.1) = none := by rfl) : PG X (.Tuple es k pos) (gTup X.K n t) := by
 intro pins s σ H v u Q I r hw
 obtain ⟨a, xs, e1, hq, hl, hw⟩ := hw
 subst e1
 cases r
 obtain ⟨its, rv, ht, hz⟩ := I.tuple hq
 refine assign_Tuple_tuple (I.ok.hd hc) ht (by simp [hn, <- hl, rv.length]) hst fun h' hx => ?_
 have I1 : Inv X pins σ H { s with heap := h' } := I.kept (t' := s.toks) fun b o e => hx b o (y10 (y0c e)) e
 exact h pins _ σ H xs _ Q I1 (by simpa using rv) hw
def tAsg (te : TE) (g : TG) : TS := fun D σ H => te σ H fun x H1 => g x σ H1 D.nx
theorem zki {i : Nat} {x : Str} {e : Expr} {te : TE} {pos' : Pos} (hN : X.N.Nodup) (hi : X.N[i]? = some x) (hx : Loc X.env.scope x) (he : PE X e te) (hs : swapsWith e (some (.Name x pos')) pos.line X.env = pure false := by rfl) (hf : X.fn x = true \/ X.env.scope.names.lookup x = some .local := by first | exact .inl rfl | exact .inr rfl | assumption) :
  PS X (.Assign [.Name x pos'] e pos) (tAsg te (zrz i)) := by
 intro pins s σ H D I h
 refine wpAny_Assign_Name (thn (he pins s σ H _ I h) fun v s1 ⟨y, H1, I1, r1, q1⟩ => ?_) hs
 exact zhk I1 hN hi hx r1 (fun s2 I2 => ⟨_, H1, I2, q1⟩) hf
end
section
variable {X : Cx} {pos : Pos}
end
structure It where
 go : Nat -> Hp -> Prop
 yld : Nat -> Hp -> V -> Hp -> Prop
 stop : Nat -> Hp -> Prop
def FpOk (X : Cx) (pins : List (Addr × Obj)) (H : Hp) (b : Addr) : Prop :=
 H b = none /\ b ≠ X.env.locals /\ b ∉ X.fs /\ (b ∈ X.ex \/ X.s₀.heap.objs.size <= b) /\ (∀ x c, X.env.cells.lookup x = some c -> c ≠ b) /\ ∀ p ∈ X.pn ++ pins, p.1 ≠ b
theorem Inv.fpOk {X : Cx} {pins : List (Addr × Obj)} {σ : St} {H H' : Hp} {s : y04} {b : Addr} (I : Inv X pins σ H s) (hb : s.heap.objs.size <= b) (hn : H' b = none) : FpOk X pins H' b := by
 refine ⟨hn, y18 (y0y I.lt hb), I.nofs hb, .inr (y1u I.sz hb), fun x c e z => ?_, fun p hp z => ?_⟩
 ·obtain ⟨v, q⟩ := I.cell x c e
  exact absurd (y0y q.lt (by rw [z]; exact hb)) (Nat.lt_irrefl _)
 ·exact absurd (y0y (y0c (I.pin p hp).1) (by rw [z]; exact hb)) (Nat.lt_irrefl _)
structure Turn (P : y0r) (w : World) (K : y00) (tg : Expr) (J : It) (fp : List Addr) (it : Addr) (tn : Nat -> Heap -> Prop) : Prop where
 mem : it ∈ fp
 obj : ∀ i h, tn i h -> ∀ b ∈ fp, ∃ o, h.get? b = some o /\ ∀ v, o.data ≠ .cell v
 keep : ∀ i h h', tn i h -> (∀ b ∈ fp, ∀ o, h.get? b = some o -> h'.get? b = some o) -> tn i h'
 item : ∀ (X : Cx), X.prog = P -> X.w = w -> X.K = K -> X.calm = true -> ∀ (i : Nat) (pins : List (Addr × Obj)) (s : y04) (σ : St) (H : Hp) (E : Value -> y04 -> Prop), Inv X pins σ H s -> (∀ b ∈ fp, FpOk X pins H b) -> tn i s.heap -> J.go i H ->
  y0v (model P w) X.A (pyNext (.ref it)) (fun r s1 => ∃ u, r = some u /\
   y0v (model P w) X.A (letOwnedTupleGo tg (.ref it) u) (fun _ s2 => ∃ x H', Inv X pins σ H' s2 /\ RelV x u /\ J.yld i H x H' /\ tn (i + 1) s2.heap /\ ∀ b ∈ fp, H' b = none) E s1) E s
 done : ∀ (X : Cx), X.prog = P -> X.w = w -> X.K = K -> X.calm = true -> ∀ (i : Nat) (pins : List (Addr × Obj)) (s : y04) (σ : St) (H : Hp) (E : Value -> y04 -> Prop), Inv X pins σ H s -> (∀ b ∈ fp, FpOk X pins H b) -> tn i s.heap -> J.stop i H ->
  y0v (model P w) X.A (pyNext (.ref it)) (fun r s1 => r = none /\ Inv X pins σ H s1) E s
 self : ∀ (A : Around) (i : Nat) (s : y04) (Q : Value -> y04 -> Prop) (E : Value -> y04 -> Prop), tn i s.heap -> Q (.ref it) s -> y0v (model P w) A (pyIter (.ref it)) Q E s
abbrev TI := St -> Hp -> (It -> Hp -> Prop) -> Prop
def PIE (X : Cx) (pins : List (Addr × Obj)) (σ : St) (tg : Expr) (R : It -> Hp -> Prop) (itv : Value) (s2 : y04) : Prop :=
 ∃ (it : Addr) (fp : List Addr) (tn : Nat -> Heap -> Prop) (J : It) (H' : Hp), itv = .ref it /\ Inv X pins σ H' s2 /\ Turn X.prog X.w X.K tg J fp it tn /\ tn 0 s2.heap /\ (∀ b ∈ fp, FpOk X pins H' b) /\ R J H'
def PI (X : Cx) (tg iter : Expr) (wi : TI) : Prop :=
 ∀ (pins : List (Addr × Obj)) (s : y04) (σ : St) (H : Hp) (R : It -> Hp -> Prop), Inv X pins σ H s -> wi σ H R ->
  y0v (model X.prog X.w) X.A (eval iter X.env) (fun v s1 => y0v (model X.prog X.w) X.A (pyIter v) (PIE X pins σ tg R) X.xe s1) X.xe s
theorem zq1 {M : Model} {A : Around} {E : Value -> y04 -> Prop} {s : y04} {tg : Expr} {it : Addr} {u : Value} {o : Obj} {n : String} {vs : Array Value} {Q : Unit -> y04 -> Prop} (ho : s.heap.get? it = some o) (hc : o.cls = .type n) (hd : o.data = .fields vs)
    (hn : ["enumerate", "zip", "dict_itemiterator", "dict_reverseitemiterator", "odict_iterator", "itertools.zip_longest", "itertools.pairwise"].contains n = false) (hQ : Q () s) : y0v M A (letOwnedTupleGo tg (.ref it) u) Q E s := by
  unfold letOwnedTupleGo
  cases tg <;> first
    | exact y06 hQ
    | (cases u <;> first
        | exact y06 hQ
        | (refine y02 (wpAny_load ho ?_)
           rw [hc, hd]
           show y0v M A (if (["enumerate", "zip", "dict_itemiterator", "dict_reverseitemiterator", "odict_iterator", "itertools.zip_longest", "itertools.pairwise"].contains n && vs[0]? == some (rawInt _)) = true then _ else _) Q E s
           rw [if_neg (by intro h; rw [hn, Bool.false_and] at h; cases h)]
           exact y06 hQ))
def Itl (K : y00) (a : Addr) : It :=
 ⟨fun i H => ∃ xs x, SqL K H a xs /\ xs[i]? = some x, fun i H x H' => H' = H /\ ∀ xs, SqL K H a xs -> xs[i]? = some x, fun i H => ∃ xs, SqL K H a xs /\ xs.length <= i⟩
def Itt (K : y00) (a : Addr) : It :=
 ⟨fun i H => ∃ xs x, SqT K H a xs /\ xs[i]? = some x, fun i H x H' => H' = H /\ ∀ xs, SqT K H a xs -> xs[i]? = some x, fun i H => ∃ xs, SqT K H a xs /\ xs.length <= i⟩
def Itr (lo : Int) (n : Nat) : It := ⟨fun i _ => i < n, fun i H x H' => H' = H /\ x = .int (lo + i), fun i _ => n <= i⟩
theorem zjr {P : y0r} {w : World} {K : y00} {tg : Expr} (a it : Addr) : Turn P w K tg (Itl K a) [it] it (fun i h => h.IsListIter it a i) where
 mem := by simp
 obj := fun i h st b hb => by
  have e : b = it := by simpa using hb
  subst e
  obtain ⟨o, e, c, d⟩ := st
  exact ⟨o, e, fun v z => by rw [d] at z; cases z⟩
 keep := fun i h h' st k => st.at fun o e => k it (by simp) o e
 item := by
  intro X hP hw hK hc i pins s σ H E I hf st hg
  subst hP hw hK
  obtain ⟨xs, x, hq, hx⟩ := hg
  obtain ⟨its, rv, p, hz⟩ := I.list hq
  obtain ⟨u, hu, ru⟩ := rv.get hx
  obtain ⟨f0, f1, f2, f3, f4, f5⟩ := hf it (by simp)
  refine wpAny_pyNext_list_item st p.isList (x := u) (by simpa using hu) fun h' st' sb => ?_
  have I1 : Inv X pins σ H { s with heap := h' } := I.turned (t' := s.toks) (fun b o hb e => (sb.2 b hb).trans e) f0 f1 f3 f4 f5
  obtain ⟨o, e, c, d⟩ := id st'
  exact ⟨u, rfl, zq1 (s := { s with heap := h' }) e c d (by decide) ⟨x, H, I1, ru, ⟨rfl, fun ys hy => by rw [I.list_inj hy hq]; exact hx⟩, st', fun b hb => (hf b hb).1⟩⟩
 done := by
  intro X hP hw hK hc i pins s σ H E I hf st hg
  subst hP hw hK
  obtain ⟨xs, hq, hx⟩ := hg
  obtain ⟨its, rv, p, hz⟩ := I.list hq
  obtain ⟨f0, f1, f2, f3, f4, f5⟩ := hf it (by simp)
  have hl := rv.length
  exact wpAny_pyNext_list_end (I.ok.hd hc) st p.isList (by simp; omega) fun h' eb => ⟨rfl, I.turned (t' := s.toks) (fun b o hb e => eb b o hb e) f0 f1 f3 f4 f5⟩
 self := fun _ _ _ _ _ st h => wpAny_pyIter_listiter st h
theorem zid {P : y0r} {w : World} {K : y00} {tg : Expr} (a it : Addr) : Turn P w K tg (Itt K a) [it] it (fun i h => h.IsTupleIter it a i) where
 mem := by simp
 obj := fun i h st b hb => by
  have e : b = it := by simpa using hb
  subst e
  obtain ⟨o, e, c, d⟩ := st
  exact ⟨o, e, fun v z => by rw [d] at z; cases z⟩
 keep := fun i h h' st k => st.at fun o e => k it (by simp) o e
 item := by
  intro X hP hw hK hc i pins s σ H E I hf st hg
  subst hP hw hK
  obtain ⟨xs, x, hq, hx⟩ := hg
  obtain ⟨its, rv, p, hz⟩ := I.tuple hq
  obtain ⟨u, hu, ru⟩ := rv.get hx
  obtain ⟨f0, f1, f2, f3, f4, f5⟩ := hf it (by simp)
  refine wpAny_pyNext_tuple_item st (show s.heap.IsTuple a its.toArray from p) (x := u) (by simpa using hu) fun h' st' sb => ?_
  have I1 : Inv X pins σ H { s with heap := h' } := I.turned (t' := s.toks) (fun b o hb e => (sb.2 b hb).trans e) f0 f1 f3 f4 f5
  obtain ⟨o, e, c, d⟩ := id st'
  exact ⟨u, rfl, zq1 (s := { s with heap := h' }) e c d (by decide) ⟨x, H, I1, ru, ⟨rfl, fun ys hy => by rw [I.tuple_inj hy hq]; exact hx⟩, st', fun b hb => (hf b hb).1⟩⟩
 done := by
  intro X hP hw hK hc i pins s σ H E I hf st hg
  subst hP hw hK
  obtain ⟨xs, hq, hx⟩ := hg
  obtain ⟨its, rv, p, hz⟩ := I.tuple hq
  obtain ⟨f0, f1, f2, f3, f4, f5⟩ := hf it (by simp)
  have hl := rv.length
  exact wpAny_pyNext_tuple_end (I.ok.hd hc) st (show s.heap.IsTuple a its.toArray from p) (by simp; omega) fun h' eb => ⟨rfl, I.turned (t' := s.toks) (fun b o hb e => eb b o hb e) f0 f1 f3 f4 f5⟩
 self := fun _ _ _ _ _ st h => wpAny_pyIter_tupleiter st h
theorem zie {P : y0r} {w : World} {K : y00} {tg : Expr} (it : Addr) (lo : Int) (n : Nat) : Turn P w K tg (Itr lo n) [it] it (fun i h => IsRangeIter h it (lo + (i : Nat) * 1) ((n : Int) - (i : Nat)) 1) where
 mem := by simp
 obj := fun i h st b hb => by
  have e : b = it := by simpa using hb
  subst e
  exact ⟨_, st, fun v z => by
   have z' : Data.fields _ = Data.cell v := z
   cases z'⟩
 keep := fun i h h' st k => k it (by simp) _ st
 item := by
  intro X hP hw hK hc i pins s σ H E I hf st hg
  subst hP hw hK
  obtain ⟨f0, f1, f2, f3, f4, f5⟩ := hf it (by simp)
  have W := Walks.range (prog := X.prog) (w := X.w) (I.ok.hd hc) it lo 1 n
  refine W.item i s _ _ hg st fun v h' tk hv st' kk => ?_
  obtain ⟨t, rfl⟩ := hv
  have I1 : Inv X pins σ H { s with heap := h', toks := tk } := I.turned (fun b o hb e => kk b o (by simpa using hb) e) f0 f1 f3 f4 f5
  refine ⟨_, rfl, zq1 (s := { s with heap := h', toks := tk }) (n := "range_iterator") st' rfl rfl (by decide) ⟨.int (lo + i), H, I1, ⟨t, ?_⟩, ⟨rfl, rfl⟩, st', fun b hb => (hf b hb).1⟩⟩
  rw [Int.mul_one]
 done := by
  intro X hP hw hK hc i pins s σ H E I hf st hg
  subst hP hw hK
  obtain ⟨f0, f1, f2, f3, f4, f5⟩ := hf it (by simp)
  exact wpAny_pyNext_range_end (I.ok.hd hc) st (by have : n <= i := hg; omega) fun h' eb => ⟨rfl, I.turned (t' := s.toks) (fun b o hb e => eb b o hb e) f0 f1 f3 f4 f5⟩
 self := fun _ _ _ _ _ st h => wpAny_pyIter_rangeiter st h
end L2
namespace L2
open PySem PySem.Spec PyProof.Rows
section
variable {X : Cx} {tg : Expr}
theorem zmo {pins : List (Addr × Obj)} {σ : St} {H : Hp} {s : y04} {R : It -> Hp -> Prop} {E : Value -> y04 -> Prop} {lo hi : Int} {t u v : Tok} {tk : Nat} (I : Inv X pins σ H s) (h1 : -(2 ^ 62) <= lo) (h2 : lo < 2 ^ 62) (h3 : -(2 ^ 62) <= hi) (h4 : hi < 2 ^ 62)
  (q : R (Itr lo (hi - lo).toNat) H) : y0v (model X.prog X.w) X.A (pyIter (.ref s.heap.objs.size)) (PIE X pins σ tg R) E { s with heap := s.heap.push { cls := .type "range", data := .fields #[.int lo t, .int hi u, .int 1 v] }, toks := tk } := by
 refine wpAny_pyIter_range (IsRange.new ..) (small_one h1 h2 h3 h4) ?_
 have I1 : Inv X pins σ H { s with heap := s.heap.push { cls := .type "range", data := .fields #[.int lo t, .int hi u, .int 1 v] }, toks := tk } := I.kept fun b o e => y03 _ e
 refine ⟨(s.heap.push { cls := .type "range", data := .fields #[.int lo t, .int hi u, .int 1 v] }).objs.size, [(s.heap.push { cls := .type "range", data := .fields #[.int lo t, .int hi u, .int 1 v] }).objs.size], _, _, H, rfl,
  I1.kept (t' := tk) fun b o e => y03 _ e, zie _ lo (hi - lo).toNat, ?_, fun b hb => ?_, q⟩
 ·have e1 : lo + ((0 : Nat) : Int) * 1 = lo := by simp
  have e2 : (((hi - lo).toNat : Nat) : Int) - ((0 : Nat) : Int) = Builtin.Range.rangeSize lo hi 1 := by rw [rangeSize_one]; split <;> omega
  show IsRangeIter _ _ (lo + ((0 : Nat) : Int) * 1) ((((hi - lo).toNat : Nat) : Int) - ((0 : Nat) : Int)) 1
  rw [e1, e2]
  exact y0m _ rfl
 ·have e : b = (s.heap.push { cls := .type "range", data := .fields #[.int lo t, .int hi u, .int 1 v] }).objs.size := by simpa using hb
  subst e
  exact I1.fpOk (y0p _) (I1.hok.fresh (y0p _))
def zt7 (ta : TA) : TI := fun σ H R => ta σ H fun vs H1 => ∃ j : Int, vs = [.int j] /\ -(2 ^ 62) <= j /\ j < 2 ^ 62 /\ R (Itr 0 j.toNat) H1
theorem zkn {a : Expr} {ta : TA} {p pos : Pos} (hg : Gl X "range") (hm : X.mg "range" = none) (ha : PA X [a] ta) (hs : y0a [a] X.env = [(false, eval a X.env)] := by rfl) : PI X tg (.Call (.Name "range" p) [a] [] pos) (zt7 ta) := by
 intro pins s σ H R I h
 refine Call_ (zcs I hg hm boot_range (y1z (thn (ha pos pins s σ H _ I h) fun us s1 ⟨vs, H1, I1, r1, q1⟩ => ?_) hs rfl))
 obtain ⟨j, e, q1, q2, q⟩ := q1
 subst e
 cases r1 with
 | cons r rr =>
  cases rr
  obtain ⟨t, rfl⟩ := r
  exact call_range_1 (zmo I1 (by omega) (by omega) q1 q2 (by simpa using q))
def tFor (wi : TI) (g : TG) (tb : TS) : TS := fun D σ H => wi σ H fun J H1 => ∃ W : Nat -> Nat -> St -> Hp -> Prop, (∃ m, W 0 m σ H1) /\ ∀ i m σ H, W i m σ H ->
 (J.stop i H /\ D.nx σ H) \/ (J.go i H /\ ∃ N : St -> Hp -> Prop, (∀ σ' H', N σ' H' -> ∃ m', m' < m /\ W (i + 1) m' σ' H') /\ ∀ x H', J.yld i H x H' -> g x σ H' fun σ2 H2 => tb { D with nx := N, ct := N, bk := D.nx } σ2 H2)
def zej (fp : List Addr) (h : Heap) : List (Addr × Obj) := fp.filterMap fun b => (h.get? b).map fun o => (b, o)
theorem z73 {fp : List Addr} {h : Heap} {b : Addr} {o : Obj} (hb : b ∈ fp) (e : h.get? b = some o) : (b, o) ∈ zej fp h := List.mem_filterMap.mpr ⟨b, hb, by rw [e]; rfl⟩
theorem zkv {fp : List Addr} {h : Heap} {p : Addr × Obj} (hp : p ∈ zej fp h) : p.1 ∈ fp /\ h.get? p.1 = some p.2 := by
 obtain ⟨b, hb, e⟩ := List.mem_filterMap.mp hp
 cases q : h.get? b with
 | none => rw [q] at e; cases e
 | some o =>
  rw [q] at e
  have e' : (b, o) = p := Option.some.inj e
  subst e'
  exact ⟨hb, q⟩
theorem Inv.pinned {pins : List (Addr × Obj)} {σ : St} {H : Hp} {s : y04} {fp : List Addr} (I : Inv X pins σ H s) (hf : ∀ b ∈ fp, FpOk X pins H b) (ho : ∀ b ∈ fp, ∃ o, s.heap.get? b = some o /\ ∀ v, o.data ≠ .cell v) : Inv X (pins ++ zej fp s.heap) σ H s :=
 I.pins_of fun p hp => (y13.mp hp).elim (fun z => I.pin p (y1d _ z)) fun z => by
  obtain ⟨hb, e⟩ := zkv z
  obtain ⟨f0, f1, f2, _⟩ := hf p.1 hb
  obtain ⟨o, e', d⟩ := ho p.1 hb
  rw [e] at e'; cases e'
  exact ⟨e, f0, f1, f2, d⟩
theorem Inv.unpinned {pins pl : List (Addr × Obj)} {σ : St} {H : Hp} {s : y04} (I : Inv X (pins ++ pl) σ H s) : Inv X pins σ H s := I.pins_of fun p hp => I.pin p (y1d _ (List.mem_append_left _ hp))
theorem zr9 {iter : Expr} {body : List Stmt} {wi : TI} {g : TG} {tb : TS} {pos : Pos} (hp : PassesOwn (model X.prog X.w) X.A X.env X.xe) (hc : X.calm = true) (hi : PI X tg iter wi) (hg : PG X tg g) (hb : PSs X body tb)
  (hs : ∀ x, foldedSetIterable iter X.env x = pure x := by intro _; rfl) : PS X (.For tg iter body [] pos) (tFor wi g tb) := by
 intro pins s σ H D I h
 refine wpAny_For (thn (hi pins s σ H _ I h) fun v s1 h1 => thn h1 fun itv s2 h2 => ?_) hs
 obtain ⟨it, fp, tn, J, H2, e, I2, T, st2, f2, W, ⟨m0, w0⟩, turn⟩ := h2
 subst e
 have stat : ∀ {H' : Hp}, (∀ b ∈ fp, H' b = none) -> ∀ b ∈ fp, FpOk X pins H' b := fun hn b hb => ⟨hn b hb, (f2 b hb).2⟩
 refine codeAny_forLoop_any (fun n s' => ∃ i σ' H', Inv X pins σ' H' s' /\ tn i s'.heap /\ (∀ b ∈ fp, H' b = none) /\ W i n σ' H') ?_ m0 ⟨0, σ, H2, I2, st2, fun b hb => (f2 b hb).1, w0⟩
 rintro n s3 ⟨i, σ3, H3, I3, st3, fr3, w3⟩
 rcases turn i n σ3 H3 w3 with ⟨stop, qn⟩ | ⟨go, N, hN, step⟩
 ·refine wpAny_passesOwn hp (thn (T.done X rfl rfl rfl hc i pins s3 σ3 H3 X.xe I3 (stat fr3) st3 stop) fun r s4 ⟨hr, I4⟩ => ?_)
  subst hr
  exact wpAny_execs_nil ⟨σ3, H3, I4, qn⟩
 ·refine wpAny_passesOwn hp (thn (T.item X rfl rfl rfl hc i pins s3 σ3 H3 X.xe I3 (stat fr3) st3 go) fun r s4 ⟨u, hr, h4⟩ => ?_)
  subst hr
  refine wpAny_passesOwn hp (thn h4 fun _ s5 ⟨x, H5, I5, r5, y5, st5, fr5⟩ => ?_)
  have I5' := I5.pinned (stat fr5) (T.obj _ _ st5)
  refine wpAny_passesOwn hp (thn (hg _ s5 σ3 H5 x u _ I5' r5 (step x H5 y5)) fun _ s6 ⟨σ6, H6, I6, q6⟩ => ?_)
  refine wpAny_passesOwn hp (thn (hb _ s6 σ6 H6 _ I6 q6) fun f s7 q7 => ?_)
  have again : ∀ {σ7 : St} {H7 : Hp}, Inv X (pins ++ zej fp s5.heap) σ7 H7 s7 -> N σ7 H7 -> ∃ m, m < n /\ ∃ i σ' H', Inv X pins σ' H' s7 /\ tn i s7.heap /\ (∀ b ∈ fp, H' b = none) /\ W i m σ' H' := fun {σ7 H7} I7 n7 => by
   obtain ⟨m', hm, w7⟩ := hN σ7 H7 n7
   refine ⟨m', hm, i + 1, σ7, H7, I7.unpinned, T.keep _ _ _ st5 fun b hb o e => (I7.pin (b, o) (y1d _ (y1d _ (z73 hb e)))).1, fun b hb => ?_, w7⟩
   obtain ⟨o, e, d⟩ := T.obj _ _ st5 b hb
   exact (I7.pin (b, o) (y1d _ (y1d _ (z73 hb e)))).2.1
  cases f with
  | next => obtain ⟨σ7, H7, I7, n7⟩ := q7; exact again I7 n7
  | cont => obtain ⟨σ7, H7, I7, n7⟩ := q7; exact again I7 n7
  | brk => obtain ⟨σ7, H7, I7, q7⟩ := q7; exact ⟨σ7, H7, I7.unpinned, q7⟩
  | ret v => obtain ⟨x7, σ7, H7, I7, r7, q7⟩ := q7; exact ⟨x7, σ7, H7, I7.unpinned, r7, q7⟩
end
end L2
namespace L2
open PySem PySem.Spec PyProof.Rows
abbrev R2 := V -> V -> Hp -> VK -> Prop
def OpR (X : Cx) (f : Value -> Value -> Sem Value) (r : R2) : Prop :=
 ∀ (pins : List (Addr × Obj)) (s : y04) (σ : St) (H : Hp) (x y : V) (v u : Value) (Q : VK), Inv X pins σ H s -> RelV x v -> RelV y u -> r x y H Q ->
  y0v (model X.prog X.w) X.A (f v u) (EP X pins σ Q) X.xe s
def UnR (X : Cx) (f : Value -> Sem Value) (r : V -> Hp -> VK -> Prop) : Prop :=
 ∀ (pins : List (Addr × Obj)) (s : y04) (σ : St) (H : Hp) (x : V) (v : Value) (Q : VK), Inv X pins σ H s -> RelV x v -> r x H Q ->
  y0v (model X.prog X.w) X.A (f v) (EP X pins σ Q) X.xe s
def z90 (X : Cx) (f : Value) (r : List V -> Hp -> VK -> Prop) : Prop :=
 ∀ (pins : List (Addr × Obj)) (s : y04) (σ : St) (H : Hp) (xs : List V) (us : List Value) (Q : VK), Inv X pins σ H s -> Vals xs us -> r xs H Q ->
  y0v (model X.prog X.w) X.A (call f us) (EP X pins σ Q) X.xe s
def TruR (X : Cx) (r : V -> Hp -> (Bool -> Hp -> Prop) -> Prop) : Prop :=
 ∀ (pins : List (Addr × Obj)) (s : y04) (σ : St) (H : Hp) (x : V) (v : Value) (Q : Bool -> Hp -> Prop), Inv X pins σ H s -> RelV x v -> r x H Q ->
  y0v (model X.prog X.w) X.A (truthy v) (TP X pins σ Q) X.xe s
def tOp (r : R2) (ta tb : TE) : TE := fun σ H Q => ta σ H fun x H1 => tb σ H1 fun y H2 => r x y H2 Q
def tUn (r : V -> Hp -> VK -> Prop) (ta : TE) : TE := fun σ H Q => ta σ H fun x H1 => r x H1 Q
def rI (C : Int -> Int -> Prop) (g : Int -> Int -> V) : R2 := fun x y H Q => ∃ i j, x = .int i /\ y = .int j /\ C i j /\ Q (g i j) H
def rI0 (g : Int -> Int -> V) : R2 := fun x y H Q => ∃ i j, x = .int i /\ y = .int j /\ Q (g i j) H
def rU (g : Int -> V) : V -> Hp -> VK -> Prop := fun x H Q => ∃ i, x = .int i /\ Q (g i) H
section
variable {X : Cx} {a b c : Expr} {ta tb tc : TE} {pos : Pos}
theorem binT (ha : PE X a ta) (hb : PE X b tb) {pins : List (Addr × Obj)} {s : y04} {σ : St} {H : Hp} {R : V -> V -> Hp -> Prop} (I : Inv X pins σ H s)
  (h : ta σ H fun x H1 => tb σ H1 fun y H2 => R x y H2) {Q : Value -> y04 -> Prop} {f : Value -> Value -> Sem Value}
  (hf : ∀ v u s2 x y H2, Inv X pins σ H2 s2 -> RelV x v -> RelV y u -> R x y H2 -> y0v (model X.prog X.w) X.A (f v u) Q X.xe s2) :
  y0v (model X.prog X.w) X.A (eval a X.env) (fun v s₁ => y0v (model X.prog X.w) X.A (eval b X.env) (fun u s₂ => y0v (model X.prog X.w) X.A (f v u) Q X.xe s₂) X.xe s₁) X.xe s := by
 refine thn (ha pins s σ H _ I h) fun v s1 ⟨x, H1, I1, r1, q1⟩ => ?_
 refine thn (hb pins s1 σ H1 _ I1 q1) fun u s2 ⟨y, H2, I2, r2, q2⟩ => ?_
 exact hf v u s2 x y H2 I2 r1 r2 q2
theorem zil {op : Operator} {r : R2} (ho : OpR X (binaryOp op) r) (ha : PE X a ta) (hb : PE X b tb) : PE X (.BinOp a op b pos) (tOp r ta tb) := by
 intro pins s σ H Q I h
 exact wpAny_BinOp (binT ha hb I h fun v u s2 x y H2 I2 rx ry q => ho pins s2 σ H2 x y v u Q I2 rx ry q)
theorem zsz {op : UnaryOp} {r : V -> Hp -> VK -> Prop} (ho : UnR X (unaryOp op) r) (ha : PE X a ta) : PE X (.UnaryOp op a pos) (tUn r ta) := by
 intro pins s σ H Q I h
 exact UnaryOp_ (thn (ha pins s σ H _ I h) fun v s1 ⟨x, H1, I1, r1, q1⟩ => ho pins s1 σ H1 x v Q I1 r1 q1)
theorem opI {f : Value -> Value -> Sem Value} {C : Int -> Int -> Prop} {g : Int -> Int -> Int}
  (rule : ∀ (i j : Int) (t u : Tok) (s : y04) (Q : Value -> y04 -> Prop) (E : Value -> y04 -> Prop), C i j -> Q (.int (g i j) s.toks) { s with toks := s.toks + 1 } -> y0v (model X.prog X.w) X.A (f (.int i t) (.int j u)) Q E s) :
  OpR X f (rI C fun i j => .int (g i j)) := by
 intro pins s σ H x y v u Q I rx ry h
 obtain ⟨i, j, rfl, rfl, hc, q⟩ := h
 obtain ⟨t, rfl⟩ := rx
 obtain ⟨t', rfl⟩ := ry
 exact rule i j t t' s _ _ hc ⟨.int (g i j), H, I.tok _, ⟨_, rfl⟩, q⟩
theorem opI0 {f : Value -> Value -> Sem Value} {g : Int -> Int -> Int}
  (rule : ∀ (i j : Int) (t u : Tok) (s : y04) (Q : Value -> y04 -> Prop) (E : Value -> y04 -> Prop), Q (.int (g i j) s.toks) { s with toks := s.toks + 1 } -> y0v (model X.prog X.w) X.A (f (.int i t) (.int j u)) Q E s) :
  OpR X f (rI0 fun i j => .int (g i j)) := by
 intro pins s σ H x y v u Q I rx ry h
 obtain ⟨i, j, rfl, rfl, q⟩ := h
 obtain ⟨t, rfl⟩ := rx
 obtain ⟨t', rfl⟩ := ry
 exact rule i j t t' s _ _ ⟨.int (g i j), H, I.tok _, ⟨_, rfl⟩, q⟩
theorem opB0 {f : Value -> Value -> Sem Value} {g : Int -> Int -> Bool}
  (rule : ∀ (i j : Int) (t u : Tok) (s : y04) (Q : Value -> y04 -> Prop) (E : Value -> y04 -> Prop), Q (.bool (g i j)) s -> y0v (model X.prog X.w) X.A (f (.int i t) (.int j u)) Q E s) :
  OpR X f (rI0 fun i j => .bl (g i j)) := by
 intro pins s σ H x y v u Q I rx ry h
 obtain ⟨i, j, rfl, rfl, q⟩ := h
 obtain ⟨t, rfl⟩ := rx
 obtain ⟨t', rfl⟩ := ry
 exact rule i j t t' s _ _ ⟨.bl (g i j), H, I, rfl, q⟩
def CDiv (i j : Int) : Prop := 0 < j /\ j < 1073741824
def CMul (i j : Int) : Prop := (-(2 ^ 64) < i /\ i < 2 ^ 64) \/ (-(2 ^ 64) < j /\ j < 2 ^ 64)
theorem CMul.ok {i j : Int} (h : CMul i j) : IntMulOk i j := by
 rcases h with ⟨h1, h2⟩ | ⟨h1, h2⟩
 ·exact .of_left (intBits_le_64 h1 h2)
 ·exact .of_right (intBits_le_64 h1 h2)
theorem zrp : OpR X (binaryOp .Add) (rI0 fun i j => .int (i + j)) := opI0 fun _ _ _ _ _ _ _ q => add_int q
theorem zrl : OpR X (binaryOp .Sub) (rI0 fun i j => .int (i - j)) := opI0 fun _ _ _ _ _ _ _ q => sub_int q
theorem zrm : OpR X (binaryOp .Mult) (rI CMul fun i j => .int (i * j)) := opI fun _ _ _ _ _ _ _ hc q => mul_int q hc.ok
theorem zpn : OpR X (binaryOp .FloorDiv) (rI CDiv fun i j => .int (i / j)) := opI fun i j _ _ _ _ _ hc q => by
 have h1 : (0 : Int) < j := hc.1
 have h2 : j < 1073741824 := hc.2
 exact floordiv_int (by omega) (by rw [Int.fdiv_eq_ediv_of_nonneg i (by omega)]; exact q) (.inl (PyProof.noPylong_small (by omega)))
theorem zrn : OpR X (binaryOp .Mod) (rI (fun _ j => 0 < j) fun i j => .int (i % j)) := opI fun i j _ _ _ _ _ hc q => by
 have h1 : (0 : Int) < j := hc
 exact mod_int' (by omega) (by rw [Int.fmod_eq_emod_of_nonneg i (by omega)]; exact q)
theorem unI {f : Value -> Sem Value} {g : Int -> Int}
  (rule : ∀ (i : Int) (t : Tok) (s : y04) (Q : Value -> y04 -> Prop) (E : Value -> y04 -> Prop), Q (.int (g i) s.toks) { s with toks := s.toks + 1 } -> y0v (model X.prog X.w) X.A (f (.int i t)) Q E s) :
  UnR X f (rU fun i => .int (g i)) := by
 intro pins s σ H x v Q I rx h
 obtain ⟨i, rfl, q⟩ := h
 obtain ⟨t, rfl⟩ := rx
 exact rule i t s _ _ ⟨.int (g i), H, I.tok _, ⟨_, rfl⟩, q⟩
theorem zqj : UnR X (unaryOp .USub) (rU fun i => .int (-i)) := unI fun _ _ _ _ _ q => neg_int q
end
section
variable {X : Cx} {a b c : Expr} {ta tb tc : TE} {pos : Pos}
theorem zi2 {pins : List (Addr × Obj)} {σ : St} {H : Hp} {s : y04} {Q : VK} {k k' : Bool} (I : Inv X pins σ H s) (q : Q (.bl k) H) (e : k = k') : EP X pins σ Q (.bool k') s := by
 subst e
 exact ⟨.bl k, H, I, rfl, q⟩
theorem zkr : OpR X (compareOp .Lt) (rI0 fun i j => .bl (decide (i < j))) := opB0 fun _ _ _ _ _ _ _ q => lt_int q
theorem zpm : OpR X (compareOp .LtE) (rI0 fun i j => .bl (decide (i <= j))) := opB0 fun _ _ _ _ _ _ _ q => le_int q
theorem zks : OpR X (compareOp .Gt) (rI0 fun i j => .bl (decide (j < i))) := opB0 fun _ _ _ _ _ _ _ q => gt_int q
theorem zro : OpR X (compareOp .GtE) (rI0 fun i j => .bl (decide (j <= i))) := opB0 fun _ _ _ _ _ _ _ q => ge_int q
theorem z6m : OpR X (compareOp .Lt) (fun x y H Q => ∃ i j, x = .str i /\ y = .str j /\ Q (.bl (decide (i.cps.toList < j.cps.toList))) H) := by
 intro pins s σ H x y v u Q I rx ry h
 obtain ⟨i, j, rfl, rfl, q⟩ := h
 obtain ⟨t, rfl⟩ := rx
 obtain ⟨t', rfl⟩ := ry
 exact lt_str (zi2 I q rfl)
theorem OpR.or {f : Value -> Value -> Sem Value} {r r' : R2} (h : OpR X f r) (h' : OpR X f r') : OpR X f (fun x y H Q => r x y H Q \/ r' x y H Q) := by
 intro pins s σ H x y v u Q I rx ry q
 rcases q with q | q
 ·exact h pins s σ H x y v u Q I rx ry q
 ·exact h' pins s σ H x y v u Q I rx ry q
theorem zoc (b : Expr) {op : CmpOp} (h : op ≠ .In := by decide) (h2 : op ≠ .NotIn := by decide) : behindInMarks op b = false := by
 have e1 : (op == CmpOp.In) = false := by cases op <;> first | rfl | exact absurd rfl h
 have e2 : (op == CmpOp.NotIn) = false := by cases op <;> first | rfl | exact absurd rfl h2
 cases b <;> simp [behindInMarks, e1, e2]
theorem zph {op : CmpOp} {r : R2} (ho : OpR X (compareOp op) r) (ha : PE X a ta) (hb : PE X b tb) (hm : behindInMarks op b = false) : PE X (.Compare a [op] [b] pos) (tOp r ta tb) := by
 intro pins s σ H Q I h
 exact wpAny_Compare1 (binT ha hb I h fun v u s2 x y H2 I2 rx ry q => ho pins s2 σ H2 x y v u Q I2 rx ry q) hm
def zs9 (t : TE) : TT := fun σ H Q => t σ H fun x H' => ∃ k, x = .bl k /\ Q k H'
theorem zp3 {op : CmpOp} {r : R2} (ho : OpR X (compareOp op) r) (ha : PE X a ta) (hb : PE X b tb) (hm : behindInMarks op b = false) : PT X (.Compare a [op] [b] pos) (zs9 (tOp r ta tb)) := by
 intro pins s σ H Q I h
 refine wpAny_isTrue_Compare1 (thn (ha pins s σ H _ I h) fun v s1 ⟨x, H1, I1, r1, q1⟩ => thn (hb pins s1 σ H1 _ I1 q1) fun u s2 ⟨y, H2, I2, r2, q2⟩ =>
  thn (ho pins s2 σ H2 x y v u _ I2 r1 r2 q2) fun c s3 ⟨z, H3, I3, r3, k, e, q3⟩ => ?_) hm
 subst e
 cases r3
 exact wpAny_truthy_bool ⟨H3, I3, q3⟩
def TruV (K : y00) (x : V) (H : Hp) (k : Bool) : Prop :=
 match x with
 | .non => k = false
 | .bl b => k = b
 | .int i => k = (i != 0)
 | .str y => y.length <= y0k /\ k = ((y.length : Int) != 0)
 | .byt y => y.size <= y0k /\ k = ((y.size : Int) != 0)
 | .ref p => (∃ xs, SqL K H p xs /\ k = !xs.isEmpty) \/ (∃ xs, SqT K H p xs /\ k = !xs.isEmpty) \/ ∃ kvs, H p = some (.dK kvs) /\ k = !kvs.isEmpty
 | _ => False
theorem zj4 {κ : Type} {kvs : List (κ × V)} {vs : List (κ × Value)} (r : KV kvs vs) : (!vs.isEmpty) = !kvs.isEmpty := by
 cases r <;> rfl
theorem zcu {xs : List V} {its : List Value} (r : Vals xs its) : (!its.toArray.isEmpty) = !xs.isEmpty := by
 cases r <;> simp
theorem zcr : (y0k : Nat) < 2 ^ 63 := by rw [sizeLine_eq]; decide
theorem zqk : TruR X (fun x H Q => ∃ k, TruV X.K x H k /\ Q k H) := by
 intro pins s σ H x v Q I rx h
 obtain ⟨k, e, q⟩ := h
 have hl := zcr
 have hs : y0k = 16777216 := sizeLine_eq
 cases x with
 | non =>
  cases rx
  have e' : k = false := e
  subst e'
  exact truthy_none ⟨H, I, q⟩
 | bl b =>
  cases rx
  have e' : k = b := e
  subst e'
  exact wpAny_truthy_bool ⟨H, I, q⟩
 | int i =>
  obtain ⟨t, rfl⟩ := rx
  have e' : k = (i != 0) := e
  subst e'
  exact PySem.P.truthy_int ⟨H, I, q⟩
 | str y =>
  obtain ⟨t, rfl⟩ := rx
  obtain ⟨hy, e'⟩ : y.length <= y0k /\ k = ((y.length : Int) != 0) := e
  subst e'
  exact PySem.P.truthy_str (by omega) ⟨H, I.tok _, q⟩
 | byt y =>
  obtain ⟨t, rfl⟩ := rx
  obtain ⟨hy, e'⟩ : y.size <= y0k /\ k = ((y.size : Int) != 0) := e
  subst e'
  exact PySem.W.truthy_bytes (by omega) ⟨H, I.tok _, q⟩
 | ref p =>
  cases rx
  have e' : (∃ xs, SqL X.K H p xs /\ k = !xs.isEmpty) \/ (∃ xs, SqT X.K H p xs /\ k = !xs.isEmpty) \/ ∃ kvs, H p = some (.dK kvs) /\ k = !kvs.isEmpty := e
  rcases e' with ⟨xs, hx, e'⟩ | ⟨xs, hx, e'⟩ | ⟨kvs, hx, e'⟩
  ·subst e'
   obtain ⟨its, r, pl, hz⟩ := I.list hx
   have hlen := r.length
   exact wpAny_truthy_list pl.isList (by simp only [y0i]; omega) ⟨H, I.tok _, by rw [zcu r]; exact q⟩
  ·subst e'
   obtain ⟨its, r, pl, hz⟩ := I.tuple hx
   have hlen := r.length
   exact truthy_tuple pl (by simp only [y0i]; omega) ⟨H, I.tok _, by rw [zcu r]; exact q⟩
  ·subst e'
   obtain ⟨hz, hS, vs, r, m⟩ : kvs.length <= y0k /\ (p == sysModules) = false /\ ∃ vs, KV kvs vs /\ s.heap.DictOf (z1m X.prog X.w) p vs := I.hok p _ hx
   have hlen : kvs.length = vs.length := Paired.length r
   exact wpAny_truthy_dict hS m (by omega) ⟨H, I.tok _, by rw [zj4 r]; exact q⟩
 | _ => exact (show False from e).elim
theorem zmr (ha : PE X a ta) (he : ∀ whole, isTrue a X.env whole = (do let v <- whole; standAt a.pos; holding [v] (truthy v))) :
  PT X a (fun σ H Q => ta σ H fun x H' => ∃ k, TruV X.K x H' k /\ Q k H') := by
 intro pins s σ H Q I h
 exact isTrue_plain (thn (ha pins s σ H _ I h) fun v s1 ⟨x, H1, I1, r1, q1⟩ => zqk pins s1 σ H1 x v Q I1 r1 q1) (he _)
theorem zio : OpR X (binaryOp .Add) (fun x y H Q => ∃ i j, x = .str i /\ y = .str j /\ i.length + j.length <= y0k /\ Q (.str (i ++ j)) H) := by
 intro pins s σ H x y v u Q I rx ry h
 obtain ⟨i, j, rfl, rfl, hz, q⟩ := h
 obtain ⟨t, rfl⟩ := rx
 obtain ⟨t', rfl⟩ := ry
 exact add_str (fun t' tk => ⟨.str (i ++ j), H, I.tok _, ⟨_, rfl⟩, q⟩) hz
theorem zg7 {x : V} {us : List Value} (r : Vals [x] us) : ∃ u, us = [u] /\ RelV x u := by
 cases r with
 | cons r1 r2 => cases r2; exact ⟨_, rfl, r1⟩
theorem zs4 {x y : V} {us : List Value} (r : Vals [x, y] us) : ∃ u w', us = [u, w'] /\ RelV x u /\ RelV y w' := by
 cases r with
 | cons r1 r2 =>
  cases r2 with
  | cons r3 r4 => cases r4; exact ⟨_, _, rfl, r1, r3⟩
theorem zlv (hc : X.calm = true) : z90 X (.builtin "max") (fun xs H Q => ∃ i j, xs = [.int i, .int j] /\ Q (.int (if j > i then j else i)) H) := by
 intro pins s σ H xs us Q I r h
 obtain ⟨i, j, rfl, q⟩ := h
 obtain ⟨u, w', rfl, ⟨t, rfl⟩, ⟨t', rfl⟩⟩ := zs4 r
 refine max_two_ints (I.ok.hd hc) fun h' tk k => ⟨_, H, I.kept k, ?_, q⟩
 by_cases hj : j > i
 ·rw [if_pos hj, if_pos hj]; exact ⟨_, rfl⟩
 ·rw [if_neg hj, if_neg hj]; exact ⟨_, rfl⟩
end
end L2
namespace L2
open PySem PySem.Spec PyProof.Rows
structure ObjM (h : Heap) (x dx C : Addr) (mA : Str -> Option Value) : Prop where
 obj : h.get? x = some (y25 C dx)
 ns : h.Ns1 dx mA
 ne : dx ≠ x
theorem zl0 {h : Heap} {dx : Addr} {mA : Str -> Option Value} (n : h.Ns1 dx mA) : ∃ od, h.get? dx = some od /\ ∀ name, PySem.W.lookIn name od = some (mA name) := by
 obtain ⟨o, es, ep, ho, hd, hk, _, hm⟩ := n
 refine ⟨o, ho, fun name => ?_⟩
 have e := hm name
 unfold nsFind findBy at e
 rw [<- Array.find?_toList] at e
 unfold PySem.W.lookIn
 rw [hd]
 dsimp only
 split
 ·rename_i y q
  rw [q] at e
  exact congrArg some e
 ·rename_i q
  rw [q] at e
  have a : es.toList.any (·.refKey) = false := by
   rw [List.any_eq_false]
   intro y hy
   obtain ⟨z, t, hkey⟩ := hk y (Array.mem_toList_iff.mp hy)
   simp [DictEntry.refKey, hkey]
  have a' : ¬ es.toList.any (·.refKey) = true := by rw [a]; exact y2b
  rw [if_neg a']
  exact congrArg some e
theorem ObjM.look {h : Heap} {x dx C : Addr} {mA : Str -> Option Value} (I : ObjM h x dx C mA) : ∃ od, PySem.W.InstAt h x (y25 C dx) C (some od) /\ ∀ name, PySem.W.lookIn name od = some (mA name) :=
 let ⟨od, ho, hl⟩ := zl0 I.ns
 ⟨od, ⟨I.obj, rfl, rfl, ho⟩, hl⟩
section
variable {prog : y0r} {w : World} {A : Around} {E : Value -> y04 -> Prop} {s : y04} {K : y00} {x dx C f : Addr} {mA : Str -> Option Value} {name : Str} {v : Value}
theorem zq2 {expr : Bool} {Q : Value -> y04 -> Prop} (X : K.In s.heap) (I : ObjM s.heap x dx C mA) (hg : PySem.W.plainGet K C name = true) (hh : PySem.W.hasDictIn K C = true)
  (ha : y0d K (.ref C) name = some none) (hv : mA name = some v) (hv' : PySem.W.handedIn v = true) (h : Q v { s with toks := s.toks + 1 }) :
  y0v (model prog w) A (getAttr (.ref x) name expr) Q E s := by
 obtain ⟨od, J, hl⟩ := I.look
 exact PySem.W.get_value X J (PySem.W.plainGet_of hg).1 (PySem.W.findObj_own hh ha rfl (by rw [hl, hv])) hv' h
theorem znf {pl : Sem Bool} {Q : Value × List Value -> y04 -> Prop} (X : K.In s.heap) (I : ObjM s.heap x dx C mA) (hg : PySem.W.plainGet K C name = true)
  (hf : y0d K (.ref C) name = some (some (.ref f))) (ht : y0z K (.ref f) = true) (hv : mA name = none) (h : Q (.ref f, [.ref x]) s) :
  y0v (model prog w) A (getMethod (.ref x) name pl) Q E s := by
 obtain ⟨od, J, hl⟩ := I.look
 exact PySem.W.method_fn X J (PySem.W.plainGet_of hg).1 (PySem.W.plainGet_of hg).2 hf (beq_iff_eq.mp ht) (by show (PySem.W.lookIn name od).map (·.isSome) = some false; rw [hl, hv]; rfl) h
theorem zou {ns : List Str} {Q : Unit -> y04 -> Prop} (X : K.In s.heap) (I : ObjM s.heap x dx C mA)
  (hs : y0d K (.ref C) "__setattr__" = some (some (.builtin "object.__setattr__"))) (hp : PySem.W.plainOver K C = true) (ht : PySem.W.takerIn K C name = some none) (hh : PySem.W.hasDictIn K C = true)
  (hw : PySem.Within mA ns) (hsz : ns.length <= y0k)
  (h : ∀ h', ObjM h' x dx C (fun y => if y = name then some v else mA y) -> Heap.SameBut dx s.heap h' -> Q () { s with heap := h', toks := s.toks + 2 }) :
  y0v (model prog w) A (setAttr (.ref x) name v) Q E s := by
 obtain ⟨od, J, hl⟩ := I.look
 refine PySem.W.set_plain X J hs (PySem.W.osa_open (s := { s with toks := s.toks + 1 }) (r := none) X J hp ht fun b => ?_)
 obtain ⟨cd, hc, hd'⟩ := PySem.W.any_some hh
 have hx : s.heap.get? x = some ⟨.ref C, some dx, .plain, #[]⟩ := I.obj
 refine y02 (y06 (y02 (y02 (wpAny_loadPart hx (y02 (PySem.W.Looks.here (s := { s with toks := s.toks + 1 }) (PySem.W.looks_clsIn X hc) ?_))))))
 rw [hd']
 refine y06 (a := some dx) (y02 (y06 (y02 ?_)))
 refine wpAny_nsSet1 (s := { s with toks := s.toks + 1 }) I.ns fun h' hn2 hs2 => ?_
 obtain ⟨oD, esD, epD, hoD, hdD, hcD⟩ := hn2.count (PySem.Within.cons name v hw)
 refine y02 (wpAny_lookBehind hoD (by rw [hdD]; exact pastItsLine_dict (y1u hcD (by rw [y0x]; omega))) ?_)
 exact y06 (h _ ⟨(hs2.2 _ (Ne.symm I.ne)).trans I.obj, hn2, I.ne⟩ hs2)
theorem zn5 {R : Result -> y04 -> Prop} {vs : List Value} {kw : List (Str × Value)} (X : K.In s.heap) (hm : PySem.W.makesIn K C = true)
  (hi : y0d K (.ref C) "__init__" = some (some (.ref f))) (hf : PySem.W.typeIn K (.ref f) = some (.type "function"))
  (h : codeAny (model prog w) (A.under (.builtin "type.__call__" ⟨.ref C :: vs, kw⟩)) (.call (.ref f) ⟨.ref (s.heap.objs.size + 1) :: vs, kw⟩) (PySem.W.InitBack (s.heap.objs.size + 1) R)
   { s with heap := (s.heap.push y1q).push (y25 C s.heap.objs.size) }) :
  codeAny (model prog w) A (.call (.ref C) ⟨vs, kw⟩) R s := by
 obtain ⟨hh, g, d, t, os⟩ := s
 exact PySem.W.make_core (PySem.W.makes_of X hm) (PySem.W.looks_findIn X hi) (fun self => PySem.W.bind_fn X self hf) (.inl rfl) h
end
def putF (f : Str) (v : V) : List (Str × V) -> List (Str × V)
  | [] => [(f, v)]
  | (g, x) :: r => if g = f then (g, v) :: r else (g, x) :: putF f v r
theorem zb1 (f g : Str) (v : V) : ∀ fs : List (Str × V), (putF f v fs).lookup g = if g = f then some v else fs.lookup g
  | [] => by
    show y1n g [(f, v)] = _
    by_cases h : g = f
    · have hb : (g == f) = true := beq_iff_eq.mpr h
      simp only [y1n, hb, if_pos h]
    · have hb : (g == f) = false := beq_eq_false_iff_ne.mpr h
      simp only [y1n, hb, if_neg h]
  | (k, x) :: r => by
    have ih := zb1 f g v r
    rw [show putF f v ((k, x) :: r) = (if k = f then (k, v) :: r else (k, x) :: putF f v r) from rfl]
    by_cases hk : k = f
    · rw [if_pos hk]
      by_cases h : g = k
      · have hb : (g == k) = true := beq_iff_eq.mpr h
        simp only [y1n, hb, if_pos (h.trans hk)]
      · have hb : (g == k) = false := beq_eq_false_iff_ne.mpr h
        simp only [y1n, hb, if_neg (fun e : g = f => h (e.trans hk.symm))]
    · rw [if_neg hk]
      by_cases h : g = k
      · have hb : (g == k) = true := beq_iff_eq.mpr h
        simp only [y1n, hb, if_neg (fun e : g = f => hk (h.symm.trans e))]
      · have hb : (g == k) = false := beq_eq_false_iff_ne.mpr h
        simp only [y1n, hb]
        exact ih
theorem zb6 (f : Str) (v : V) : ∀ fs : List (Str × V), f ∈ (putF f v fs).map (·.1) /\ ∀ g, g ∈ fs.map (·.1) -> g ∈ (putF f v fs).map (·.1)
  | [] => ⟨by simp [putF], fun g h => by simp at h⟩
  | (k, x) :: r => by
    obtain ⟨i1, i2⟩ := zb6 f v r
    rw [show putF f v ((k, x) :: r) = (if k = f then (k, v) :: r else (k, x) :: putF f v r) from rfl]
    by_cases hk : k = f
    · rw [if_pos hk]
      subst hk
      exact ⟨by simp, fun g h => by simpa using h⟩
    · rw [if_neg hk]
      refine ⟨?_, fun g h => ?_⟩
      · rw [y0e]
        exact y05 _ i1
      · rw [y0e] at h ⊢
        rcases y09.mp h with e | e
        · exact y09.mpr (.inl e)
        · exact y05 _ (i2 g e)
theorem zb4 (f : Str) (v : V) : ∀ fs : List (Str × V), (putF f v fs).length <= fs.length + 1
  | [] => by simp [putF]
  | (k, x) :: r => by
    have ih := zb4 f v r
    rw [show putF f v ((k, x) :: r) = (if k = f then (k, v) :: r else (k, x) :: putF f v r) from rfl]
    by_cases hk : k = f
    · rw [if_pos hk, y0x, y0x]; omega
    · rw [if_neg hk, y0x, y0x]; omega
theorem RelO.some_of {v : V} {o : Option Value} (r : RelO (some v) o) : ∃ u, o = some u /\ RelV v u := by
 cases o with
 | none => exact (show False from r).elim
 | some u => exact ⟨u, rfl, r⟩
theorem RelO.none_of {o : Option Value} (r : RelO none o) : o = none := by
 cases o with
 | none => rfl
 | some u => exact (show False from r).elim
theorem zli {v : V} {u : Value} (r : RelV v u) : PySem.W.handedIn u = true := by
 cases v with
 | non => cases (show u = Value.none from r); rfl
 | bl b => cases (show u = Value.bool b from r); rfl
 | int i => obtain ⟨t, e⟩ := (show ∃ t, u = Value.int i t from r); cases e; rfl
 | str x => obtain ⟨t, e⟩ := (show ∃ t, u = Value.str x t from r); cases e; rfl
 | byt b => obtain ⟨t, e⟩ := (show ∃ t, u = Value.bytes b t from r); cases e; rfl
 | flt b => obtain ⟨t, e⟩ := (show ∃ t, u = Value.float b t from r); cases e; rfl
 | ref a => cases (show u = Value.ref a from r); rfl
 | ty n => cases (show u = Value.type n from r); rfl
section
variable {P : y0r} {w : World} {H H' : Hp} {h h' : Heap} {a C dx : Addr} {fs fs' : List (Str × V)}
theorem zgz (hok : HOk P w H h) (e : H a = some (.ins C dx fs)) : ∃ mA, ObjM h a dx C mA /\ (∀ f, RelO (fs.lookup f) (mA f)) /\ PySem.Within mA (fs.map (·.1)) /\ fs.length <= 1000 /\ H dx = some (.own a) := by
 obtain ⟨d, z, ne, ob, mA, n, r, q⟩ := (show z5b P w H h a (.ins C dx fs) from hok a _ e)
 exact ⟨mA, ⟨ob, n, ne⟩, r, q, z, d⟩
end
structure Cls (K : y00) (C : Addr) : Prop where
 pg : PySem.W.plainGet K C Str.empty = true
 hd : PySem.W.hasDictIn K C = true
 po : PySem.W.plainOver K C = true
 sa : y0d K (.ref C) "__setattr__" = some (some (.builtin "object.__setattr__"))
theorem Cls.get {K : y00} {C : Addr} (c : Cls K C) (f : Str) : PySem.W.plainGet K C f = true := c.pg
def z8z (K : y00) (C : Addr) (f : Str) : Prop := y0d K (.ref C) f = some none
theorem z8z.taker {K : y00} {C : Addr} {f : Str} (n : z8z K C f) : PySem.W.takerIn K C f = some none := by
 unfold PySem.W.takerIn
 rw [show y0d K (.ref C) f = some none from n]
 rfl
structure Meth (K : y00) (C : Addr) (m : Str) (f : Addr) : Prop where
 at_ : y0d K (.ref C) m = some (some (.ref f))
 fn : y0z K (.ref f) = true
 kp : y08 K (.ref f) = true
section
variable {X : Cx} {pins : List (Addr × Obj)} {σ : St} {H : Hp} {s : y04} {a C dx : Addr} {fs : List (Str × V)} {f : Str} {v : V} {A : Around} {E : Value -> y04 -> Prop}
theorem zcy {b : Bool} {Q : Value -> y04 -> Prop} (I : Inv X pins σ H s) (e : H a = some (.ins C dx fs)) (c : Cls X.K C) (n : z8z X.K C f) (l : fs.lookup f = some v)
  (h : ∀ u s', Inv X pins σ H s' -> RelV v u -> Q u s') : y0v (model X.prog X.w) A (getAttr (.ref a) f b) Q E s := by
 obtain ⟨mA, O, r, _, _, _⟩ := zgz I.hok e
 obtain ⟨u, hu, ru⟩ := RelO.some_of (v := v) (o := mA f) (by rw [<- l]; exact r f)
 exact zq2 I.kIn O (c.get f) c.hd n hu (zli ru) (h u _ (I.tok _) ru)
theorem zcx {m : Str} {g : Addr} {pl : Sem Bool} {Q : Value × List Value -> y04 -> Prop} (I : Inv X pins σ H s) (e : H a = some (.ins C dx fs)) (c : Cls X.K C) (k : Meth X.K C m g) (l : fs.lookup m = none)
  (h : Q (.ref g, [.ref a]) s) : y0v (model X.prog X.w) A (getMethod (.ref a) m pl) Q E s := by
 obtain ⟨mA, O, r, _, _, _⟩ := zgz I.hok e
 have hn : mA m = none := RelO.none_of (by rw [<- l]; exact r m)
 exact znf I.kIn O (c.get m) k.at_ k.fn hn h
theorem zc9 {y : V} {u : Value} {Q : Unit -> y04 -> Prop} (I : Inv X pins σ H s) (e : H a = some (.ins C dx fs)) (c : Cls X.K C) (n : z8z X.K C f) (hl : fs.length < 1000) (ry : RelV y u)
  (h : ∀ s', Inv X pins σ (upd H a (.ins C dx (putF f y fs))) s' -> Q () s') : y0v (model X.prog X.w) A (setAttr (.ref a) f u) Q E s := by
 obtain ⟨mA, O, r, wi, _, ho⟩ := zgz I.hok e
 have hz : (fs.map (·.1)).length <= y0k := by rw [y16, sizeLine_eq]; omega
 refine zou I.kIn O c.sa c.po n.taker c.hd wi hz fun h' O' sb => h _ ?_
 have hd : ∃ o, h'.get? dx = some o := let ⟨o, _, _, e', _⟩ := O'.ns; ⟨o, e'⟩
 refine I.write (x := a) (e := dx) (by rw [e]; exact True.intro) (.inr ho) (fun b q hb z => (sb.2 b hb).trans z) hd ?_
 refine ⟨by rw [z0j O.ne]; exact ho, ?_, O.ne, O'.obj, _, O'.ns, fun g => ?_, fun g hg => ?_⟩
 ·have := zb4 f y fs; omega
 ·show RelO ((putF f y fs).lookup g) (if g = f then some u else mA g)
  rw [zb1]
  by_cases q : g = f
  ·rw [if_pos q, if_pos q]; exact ry
  ·rw [if_neg q, if_neg q]; exact r g
 ·by_cases q : g = f
  ·rw [q]; exact (zb6 f y fs).1
  ·refine (zb6 f y fs).2 g (wi g fun z => hg ?_)
   show (if g = f then some u else mA g) = none
   rw [if_neg q]; exact z
theorem Inv.made (I : Inv X pins σ H s) : Inv X pins σ (upd (upd H s.heap.objs.size (.own (s.heap.objs.size + 1))) (s.heap.objs.size + 1) (.ins C s.heap.objs.size []))
  { s with heap := (s.heap.push y1q).push (y25 C s.heap.objs.size) } := by
 have e1 : (s.heap.push y1q).get? s.heap.objs.size = some y1q := y0m s.heap rfl
 have e2 : ((s.heap.push y1q).push (y25 C s.heap.objs.size)).get? (s.heap.objs.size + 1) = some (y25 C s.heap.objs.size) := by
  have := y0m (s.heap.push y1q) (o := y25 C s.heap.objs.size) rfl
  rwa [y1a] at this
 have e3 : (s.heap.push y1q).Ns s.heap.objs.size (fun _ => none) := ⟨y1q, #[], _, e1, rfl, (fun e he => absurd he (by simp)), fun _ => rfl⟩
 have I1 := I.laid (a := s.heap.objs.size) (o := .own (s.heap.objs.size + 1)) (h' := s.heap.push y1q) (t' := s.toks) (fun b u q => y03 _ q) (y0p _) ⟨_, e1⟩
 refine I1.laid (a := s.heap.objs.size + 1) (o := .ins C s.heap.objs.size []) (t' := s.toks) (fun b u q => y03 _ q) (Nat.le_of_eq (y1a _ _)) ?_
 have ne : s.heap.objs.size ≠ s.heap.objs.size + 1 := y10 (Nat.lt_succ_self _)
 refine ⟨by rw [z0j ne, z0d], y2c _, ne, e2, fun _ => none, (Heap.Ns1.of_empty e3).at fun o q => y03 _ q, fun _ => True.intro, fun y hy => absurd rfl hy⟩
theorem zqf {prog : y0r} {w : World} {env : Env} {e : Expr} {f : Str} {pos : Pos} {s : y04} {Q : Value -> y04 -> Prop} (hb : attributeBase e f env (eval e env) = eval e env)
  (h : y0v (model prog w) A (eval e env) (fun o s₁ => y0v (model prog w) A (getAttr o f true) Q E s₁) E s) : y0v (model prog w) A (eval (.Attribute e f pos) env) Q E s :=
 Attribute_any_ h (by rw [arm_eval_Attribute, hb])
end
def tFld (K : y00) (ta : TE) (f : Str) : TE := fun σ H Q => ta σ H fun x H1 => ∃ a C dx fs v, x = .ref a /\ H1 a = some (.ins C dx fs) /\ Cls K C /\ z8z K C f /\ fs.lookup f = some v /\ Q v H1
def sFld (K : y00) (ta tv : TE) (f : Str) : TS := fun D σ H => tv σ H fun y H1 => ta σ H1 fun x H2 => ∃ a C dx fs, x = .ref a /\ H2 a = some (.ins C dx fs) /\ Cls K C /\ z8z K C f /\ fs.length < 1000 /\
 D.nx σ (upd H2 a (.ins C dx (putF f y fs)))
def InOp (X : Cx) (op : Operator) (rd : V -> V -> Hp -> VK -> Prop) : Prop :=
 ∀ (pins : List (Addr × Obj)) (s : y04) (σ : St) (H : Hp) (x y : V) (u v : Value) (Q : VK), Inv X pins σ H s -> RelV x u -> RelV y v -> rd x y H Q -> y0v (model X.prog X.w) X.A (inplaceOp op u v) (EP X pins σ Q) X.xe s
def zox (K : y00) (ta tv : TE) (rd : V -> V -> Hp -> VK -> Prop) (f : Str) : TS := fun D σ H => ta σ H fun x H1 => ∃ a C dx fs v, x = .ref a /\ H1 a = some (.ins C dx fs) /\ Cls K C /\ z8z K C f /\ fs.lookup f = some v /\
 tv σ H1 fun y H2 => rd v y H2 fun z H3 => ∃ dx' fs', H3 a = some (.ins C dx' fs') /\ fs'.length < 1000 /\ D.nx σ (upd H3 a (.ins C dx' (putF f z fs')))
section
variable {X : Cx} {o e value : Expr} {f : Str} {pos pos' tpos : Pos} {ta tv : TE}
theorem z8e (he : PE X e ta) (hb : attributeBase e f X.env (eval e X.env) = eval e X.env) : PE X (.Attribute e f pos) (tFld X.K ta f) := by
 intro pins s σ H Q I h
 refine zqf hb (thn (he pins s σ H _ I h) fun u s1 ⟨x, H1, I1, rx, a, C, dx, fs, v, ex, ea, c, n, l, q⟩ => ?_)
 subst ex
 obtain rfl : u = Value.ref a := rx
 exact zcy I1 ea c n l fun u' s2 I2 ru => ⟨v, H1, I2, ru, q⟩
theorem zkl (ha : PE X o ta) (hv : PE X value tv) (hs : swapsWith value (some (.Attribute o f pos')) pos.line X.env = pure false) : PS X (.Assign [.Attribute o f pos'] value pos) (sFld X.K ta tv f) := by
 intro pins s σ H D I h
 refine plainObj_wpAny_Assign_Attribute (thn (hv pins s σ H _ I h) fun u s1 ⟨y, H1, I1, ry, q⟩ => thn (ha pins s1 σ H1 _ I1 q) fun ov s2 ⟨x, H2, I2, rx, a, C, dx, fs, ex, ea, c, n, l, q2⟩ => ?_) hs
 subst ex
 obtain rfl : ov = Value.ref a := rx
 exact zc9 I2 ea c n l ry fun s3 I3 => ⟨σ, _, I3, q2⟩
theorem zkk {op : Operator} {rd : V -> V -> Hp -> VK -> Prop} (ha : PE X o ta) (hv : PE X value tv) (hop : InOp X op rd) : PS X (.AugAssign (.Attribute o f tpos) op value pos) (zox X.K ta tv rd f) := by
 intro pins s σ H D I h
 refine wpAny_AugAssign_AttributeAny (thn (ha pins s σ H _ I h) fun ov s1 ⟨x, H1, I1, rx, a, C, dx, fs, v, ex, ea, c, n, l, q⟩ => ?_)
 subst ex
 obtain rfl : ov = Value.ref a := rx
 refine zcy I1 ea c n l fun u s2 I2 ru => thn (hv pins s2 σ H1 _ I2 q) fun w3 s3 ⟨y, H2, I3, ry, q3⟩ => thn (hop pins s3 σ H2 v y u w3 _ I3 ru ry q3) fun w4 s4 ⟨z, H3, I4, rz, dx', fs', ea', l', q4⟩ => ?_
 exact zc9 I4 ea' c n l' rz fun s5 I5 => ⟨σ, _, I5, q4⟩
def rAdd : V -> V -> Hp -> VK -> Prop := fun x y H Q => ∃ i j, x = .int i /\ y = .int j /\ Q (.int (i + j)) H
theorem zog : InOp X .Add rAdd := by
 rintro pins s σ H x y u v Q I rx ry ⟨i, j, rfl, rfl, q⟩
 obtain ⟨t, rfl⟩ := (show ∃ t, u = Value.int i t from rx)
 obtain ⟨t', rfl⟩ := (show ∃ t', v = Value.int j t' from ry)
 exact PyProof.Rows.iadd_int ⟨.int (i + j), H, I.tok _, ⟨_, rfl⟩, q⟩
end
section
variable {X : Cx} {pins : List (Addr × Obj)} {σ : St} {H : Hp} {s : y04} {A : Around} {E : Value -> y04 -> Prop} {Q : Value -> y04 -> Prop} {c : Value} {b : Bool}
end
end L2
namespace L2
open PySem PySem.Spec PyProof.Rows
structure Room (k : Nat) (A : Around) : Prop where
 hd : A.handled = none
 dp : A.depth + 3 * k + 5 < recursionLimit
 un : A.units + 16 * k + 200 < cLine
theorem Room.mono {j k : Nat} {A : Around} (r : Room k A) (h : j <= k) : Room j A := ⟨r.hd, by have := r.dp; omega, by have := r.un; omega⟩
theorem Room.deeper {k : Nat} {A : Around} (r : Room (k + 1) A) (env : Env) : Room k (A.deeper env) :=
 ⟨r.hd, by have := r.dp; show A.depth + 1 + 3 * k + 5 < _; omega, by have := r.un; show A.units + 3 + 16 * k + 200 < _; omega⟩
theorem zj2 {A : Around} {C : Addr} {us : List Value} {kw : List (Str × Value)} : (A.under (.builtin "type.__call__" ⟨.ref C :: us, kw⟩)).depth = A.depth + 1 := by
 first | rfl | simp [Around.under, Code.weight, Code.isCreation, Code.isGuard, Code.isCaller, Code.frames, Code.isFrame, guardIds]
theorem zj1 {A : Around} {C : Addr} {us : List Value} {kw : List (Str × Value)} : (A.under (.builtin "type.__call__" ⟨.ref C :: us, kw⟩)).units = A.units + 1 := by
 first | rfl | simp [Around.under, Code.cUnits, Code.frames, Code.isFrame]
theorem Room.make {k : Nat} {A : Around} (r : Room (k + 1) A) (C : Addr) (us : List Value) (kw : List (Str × Value)) : Room k (A.under (.builtin "type.__call__" ⟨.ref C :: us, kw⟩)) :=
 ⟨r.hd, by have := r.dp; rw [zj2]; omega, by have := r.un; rw [zj1]; omega⟩
theorem Room.depth {k : Nat} {A : Around} (r : Room k A) : A.depth < recursionLimit := by have := r.dp; omega
theorem Room.units {k : Nat} {A : Around} (r : Room k A) : A.units + 64 < cLine := by have := r.un; omega
def tNil : TA := fun _ H Q => Q [] H
def zsh (ta : TE) (tr : TA) : TA := fun σ H Q => ta σ H fun x H1 => tr σ H1 fun xs H2 => Q (x :: xs) H2
section
variable {X : Cx} {e : Expr} {es : List Expr} {te : TE} {t : TA} {pos : Pos}
theorem z6l : PA X [] tNil := fun _ _ _ _ H Q I h => Calls.spliced_nil ⟨[], H, I, .nil, h⟩
theorem z49 (ha : PE X e te) (hr : PA X es t) (hs : y0a (e :: es) X.env = (false, eval e X.env) :: y0a es X.env := by rfl) : PA X (e :: es) (zsh te t) := by
 intro pos pins s σ H Q I h
 rw [hs]
 show y0v _ _ (spliced ((false, eval e X.env) :: backTo pos (y0a es X.env))) _ _ s
 refine Calls.spliced_cons (thn (ha pins s σ H _ I h) fun u s1 ⟨x, H1, I1, r1, q1⟩ => ?_)
 exact thn (hr pos pins s1 σ H1 _ I1 q1) fun us s2 ⟨xs, H2, I2, r2, q2⟩ => ⟨x :: xs, H2, I2, .cons r1 r2, q2⟩
def tTup (t : TA) : TE := fun σ H Q => t σ H fun xs H1 => xs.length <= y0k /\ ∀ p, H1 p = none -> Q (.ref p) (upd H1 p (.tup xs))
def tLst (t : TA) : TE := fun σ H Q => t σ H fun xs H1 => xs.length <= y0k /\ ∀ p, H1 p = none -> Q (.ref p) (upd H1 p (.lst xs))
theorem zrc {x1} (h : PA X es t) : PE X (.Tuple es x1 pos) (tTup t) := by
 intro pins s σ H Q I hq
 refine wpAny_Tuple_spliced (thn (h pos pins s σ H _ I hq) fun us s1 ⟨xs, H1, I1, r, z, q⟩ => ⟨by rw [<- r.length]; exact z, ?_⟩)
 have hf : H1 s1.heap.objs.size = none := I1.hok.fresh (y0p _)
 refine ⟨.ref s1.heap.objs.size, upd H1 s1.heap.objs.size (.tup xs), I1.laid (t' := s1.toks) (fun b u e => y03 _ e) (y0p _) ?_, rfl, q _ hf⟩
 exact ⟨z, us, r, ⟨_, y0m _ rfl, rfl, _, rfl⟩⟩
theorem zrf (h : PA X es t) : PE X (.List es pos) (tLst t) := by
 intro pins s σ H Q I hq
 refine wpAny_List_spliced (thn (h pos pins s σ H _ I hq) fun us s1 ⟨xs, H1, I1, r, z, q⟩ => ⟨by rw [<- r.length]; exact z, ?_⟩)
 have hf : H1 s1.heap.objs.size = none := I1.hok.fresh (y0p _)
 refine ⟨.ref s1.heap.objs.size, upd H1 s1.heap.objs.size (.lst xs), I1.laid (t' := s1.toks) (fun b u e => y03 _ e) (y0p _) ?_, rfl, q _ hf⟩
 exact ⟨z, us, 0, r, y0m _ rfl⟩
end
abbrev Sp := List V -> Hp -> VK -> XK -> Prop
abbrev CXT := List Env -> Hp -> y04 -> XK -> Value -> y04 -> Prop
structure Env0 (P : y0r) (w : World) (K : y00) (mg : Str -> Option Value) (base : Heap) (A : Around) (outer : List Env) (s : y04) (H : Hp) : Prop where
 frames : A.frames = some outer
 mod : Mod K mg base
 bs : ∀ b o, base.get? b = some o -> s.heap.get? b = some o /\ H b = none
 bsz : base.objs.size <= s.heap.objs.size
 funs : s.heap.FunFrames base outer
 frf : ∀ b ∈ frs outer, H b = none
 hok : HOk P w H s.heap
 bare : AllBare s.gens
def CE (outer : List Env) (P : y0r) (w : World) (H : Hp) (s : y04) (Q : VK) (u : Value) (s' : y04) : Prop :=
 ∃ v H', s'.os = s.os /\ AllBare s'.gens /\ Un (frs outer) [] H H' s.heap s'.heap /\ HOk P w H' s'.heap /\ RelV v u /\ Q v H'
def CR (CX : CXT) (outer : List Env) (P : y0r) (w : World) (H : Hp) (s : y04) (Q : VK) (E : XK) (r : Result) (s' : y04) : Prop :=
 match r with
 | .ok (.ret u) => CE outer P w H s Q u s'
 | .ok _ => False
 | .error e => CX outer H s E e s'
structure FnOk (P : y0r) (w : World) (K : y00) (mg : Str -> Option Value) (base : Heap) (CX : CXT) (k : Nat) (f : Addr) (fd : y0b) (ps : List Str) (sp : Sp) : Prop where
 len : ∀ vs H Q E, sp vs H Q E -> vs.length = ps.length
 run : ∀ (A : Around) (outer : List Env) (s : y04) (H : Hp) (args : Args) (us : List Value) (vs : List V) (Q : VK) (E : XK), Room k A -> Env0 P w K mg base A outer s H -> BindsTo s fd args (ps.zip us) -> Vals vs us -> sp vs H Q E ->
  codeAny (model P w) A (.call (.ref f) args) (CR CX outer P w H s Q E) s
theorem FnOk.mono {P : y0r} {w : World} {K : y00} {mg : Str -> Option Value} {base : Heap} {CX : CXT} {j k : Nat} {f : Addr} {fd : y0b} {ps : List Str} {sp : Sp} (F : FnOk P w K mg base CX j f fd ps sp) (h : j <= k) :
  FnOk P w K mg base CX k f fd ps sp := ⟨F.len, fun A outer s H args us vs Q E hr => F.run A outer s H args us vs Q E (hr.mono h)⟩
theorem FnOk.imp {P : y0r} {w : World} {K : y00} {mg : Str -> Option Value} {base : Heap} {CX : CXT} {k : Nat} {f : Addr} {fd : y0b} {ps : List Str} {sp sp' : Sp} (F : FnOk P w K mg base CX k f fd ps sp)
  (h : ∀ vs H Q E, sp' vs H Q E -> sp vs H Q E) : FnOk P w K mg base CX k f fd ps sp' :=
 ⟨fun vs H Q E q => F.len vs H Q E (h _ _ _ _ q), fun A outer s H args us vs Q E hr he hb hv hs => F.run A outer s H args us vs Q E hr he hb hv (h _ _ _ _ hs)⟩
theorem Env0.make {P : y0r} {w : World} {K : y00} {mg : Str -> Option Value} {base : Heap} {A : Around} {outer : List Env} {s : y04} {H : Hp} (e : Env0 P w K mg base A outer s H) (C : Addr) (us : List Value) (kw : List (Str × Value)) :
  Env0 P w K mg base (A.under (.builtin "type.__call__" ⟨.ref C :: us, kw⟩)) outer s H := ⟨by first | exact e.frames | (simpa [Around.under, Code.envs, Code.isFrame, pushEnvs] using e.frames), e.mod, e.bs, e.bsz, e.funs, e.frf, e.hok, e.bare⟩
section
variable {X : Cx} {pins : List (Addr × Obj)} {σ : St} {H : Hp} {s s' : y04}
theorem Inv.env0 (I : Inv X pins σ H s) : Env0 X.prog X.w X.K X.mg X.base X.A X.stack s H :=
 ⟨I.ok.frames, I.ok.mod, I.bs, y1u I.ok.bsz I.sz, I.stack, I.stkFree, I.hok, I.bare⟩
theorem Inv.after {Q : VK} {u : Value} (I : Inv X pins σ H s) (h : CE X.stack X.prog X.w H s Q u s') : EP X pins σ Q u s' := by
 obtain ⟨v, H', os, bare, un, hok, r, q⟩ := h
 obtain ⟨hh, g, d, t, os'⟩ := s'
 obtain rfl : os' = s.os := os
 exact ⟨v, H', I.call (h' := hh) (g' := g) (d' := d) (t' := t) (ch := []) un hok bare (fun b z => absurd z (by simp)), r, q⟩
end
def zsi (sp : Sp) (dvs : List V) (E : XK) (t : TA) : TE := fun σ H Q => t σ H fun vs H1 => sp (vs ++ dvs) H1 Q E
def zqn (C : Addr) (m : Str) (sp : Sp) (dvs : List V) (E : XK) (ta : TE) (t : TA) : TE := fun σ H Q => ta σ H fun x H1 => ∃ a dx fs, x = .ref a /\ H1 a = some (.ins C dx fs) /\ fs.lookup m = none /\
 t σ H1 fun vs H2 => sp (x :: (vs ++ dvs)) H2 Q E
def zse (C : Addr) (sp : Sp) (dvs : List V) (E : XK) (t : TA) : TE := fun σ H Q => t σ H fun vs H1 => ∀ x dx, H1 x = none -> H1 dx = none -> dx ≠ x ->
 sp (.ref x :: (vs ++ dvs)) (upd (upd H1 dx (.own x)) x (.ins C dx [])) (fun v H2 => v = .non /\ Q (.ref x) H2) E
def z15 (K : y00) (fd : y0b) (ps : List Str) (ds : List Value) : Prop :=
 ∀ (s : y04) (us : List Value), K.In s.heap -> (us ++ ds).length = ps.length -> BindsTo s fd ⟨us, []⟩ (ps.zip (us ++ ds))
theorem z15.all {K : y00} {fd : y0b} {ps : List Str} (h : ∀ us : List Value, us.length = ps.length -> bindArgs fd ⟨us, []⟩ = pure (ps.zip us)) : z15 K fd ps [] := fun s us _ hl => by
 rw [y26] at hl ⊢
 exact .of_eq (h us hl)
def zbt (CX : CXT) (X : Cx) (E : XK) : Prop := ∀ (pins : List (Addr × Obj)) (σ : St) (H : Hp) (s : y04) (e : Value) (s' : y04), Inv X pins σ H s -> CX X.stack H s E e s' -> X.xe e s'
section
variable {X : Cx} {CX : CXT} {k : Nat} {f C : Addr} {fd : y0b} {ps : List Str} {sp : Sp} {dvs : List V} {ds : List Value} {E : XK} {x m : Str} {p pos apos : Pos} {e o : Expr} {es : List Expr} {ta : TE} {t : TA}
theorem zk6 {pins : List (Addr × Obj)} {σ : St} {H : Hp} {s : y04} {Q : VK} {us : List Value} {vs : List V} (F : FnOk X.prog X.w X.K X.mg X.base CX k f fd ps sp) (hr : Room k X.A) (hb : z15 X.K fd ps ds) (hd : Vals dvs ds) (hx : zbt CX X E)
  (I : Inv X pins σ H s) (r : Vals vs us) (h : sp (vs ++ dvs) H Q E) : y0v (model X.prog X.w) X.A (call (.ref f) us) (EP X pins σ Q) X.xe s := by
 have r2 : Vals (vs ++ dvs) (us ++ ds) := r.append hd
 have hl : (us ++ ds).length = ps.length := by rw [<- r2.length]; exact F.len _ _ _ _ h
 refine wpAny_call (codeAny_mono (F.run X.A X.stack s H ⟨us, []⟩ (us ++ ds) (vs ++ dvs) Q E hr I.env0 (hb s us I.kIn hl) r2 h) fun r s' hq => ?_)
 cases r with
 | error e => exact hx pins σ H s e s' I hq
 | ok fl =>
  cases fl with
  | ret u => exact I.after hq
  | next => exact y24 hq
  | brk => exact y24 hq
  | cont => exact y24 hq
theorem zkq (F : FnOk X.prog X.w X.K X.mg X.base CX k f fd ps sp) (hr : Room k X.A) (hg : Gl X x) (hm : X.mg x = some (.ref f)) (hk : y08 X.K (.ref f) = true) (hb : z15 X.K fd ps ds) (hd : Vals dvs ds) (hx : zbt CX X E)
  (ha : PA X (e :: es) t) (hdb : (x == ("__debug__" : Str)) = false := by decide) (he : y0a (e :: es) X.env = (false, eval e X.env) :: y0a es X.env := by rfl) (hpl : (backTo pos (y0a es X.env)).any (·.1) = false := by rfl) :
  PE X (.Call (.Name x p) (e :: es) [] pos) (zsi sp dvs E t) := by
 intro pins s σ H Q I h
 refine wpAny_Call_Name_kw (zgy I hg hm ?_ hdb)
 refine PySem.W.callWith_K (h₀ := X.base) I.ok.mod.kin hk (thn (ha pos pins s σ H _ I h) fun us s1 ⟨vs, H1, I1, r, q⟩ => ⟨I1.kIn, ?_⟩) he hpl
 exact zk6 F hr hb hd hx I1 r q
theorem zko {pl : Sem Bool} (he : PE X o ta) (c : Cls X.K C) (hm : Meth X.K C m f) (F : FnOk X.prog X.w X.K X.mg X.base CX k f fd ps sp) (hr : Room k X.A) (hb : z15 X.K fd ps ds) (hd : Vals dvs ds) (hx : zbt CX X E) (ha : PA X (e :: es) t)
  (hst : y0a (e :: es) X.env = (false, eval e X.env) :: y0a es X.env := by rfl) (hpl : (backTo pos (y0a es X.env)).any (·.1) = false := by rfl)
  (ht : eval (.Call (.Attribute o m apos) (e :: es) [] pos) X.env = (do
   let ov <- eval o X.env
   standAt apos.atName
   let (f, first) <- holding [ov] (getMethod ov m pl)
   callWith pos f first (backTo pos (y0a (e :: es) X.env)) (backToKw pos (keywordEach [] X.env))) := by rfl) :
  PE X (.Call (.Attribute o m apos) (e :: es) [] pos) (zqn C m sp dvs E ta t) := by
 intro pins s σ H Q I h
 refine PySem.W.methodCall_KW (pl := pl) (thn (he pins s σ H _ I h) fun u s1 ⟨x, H1, I1, rx, a, dx, fs, ex, ea, l, q⟩ => ?_) ht
 subst ex
 obtain rfl : u = Value.ref a := rx
 refine zcx I1 ea c hm l ?_
 refine PySem.W.callWith_K (first := [.ref a]) (h₀ := X.base) I.ok.mod.kin hm.kp (thn (ha pos pins s1 σ H1 _ I1 q) fun us s2 ⟨vs, H2, I2, r, q2⟩ => ⟨I2.kIn, ?_⟩) hst hpl
 exact zk6 (us := .ref a :: us) (vs := .ref a :: vs) F hr hb hd hx I2 (.cons rfl r) q2
theorem zhq {pl : Sem Bool} (he : PE X o ta) (c : Cls X.K C) (hm : Meth X.K C m f) (F : FnOk X.prog X.w X.K X.mg X.base CX k f fd ps sp) (hr : Room k X.A) (hb : z15 X.K fd ps ds) (hd : Vals dvs ds) (hx : zbt CX X E)
  (ht : eval (.Call (.Attribute o m apos) [] [] pos) X.env = (do
   let ov <- eval o X.env
   standAt apos.atName
   let (f, first) <- holding [ov] (getMethod ov m pl)
   callWith pos f first (backTo pos (y0a [] X.env)) (backToKw pos (keywordEach [] X.env))) := by rfl) :
  PE X (.Call (.Attribute o m apos) [] [] pos) (zqn C m sp dvs E ta tNil) := by
 intro pins s σ H Q I h
 refine PySem.W.methodCall_KW (pl := pl) (thn (he pins s σ H _ I h) fun u s1 ⟨x, H1, I1, rx, a, dx, fs, ex, ea, l, q⟩ => ?_) ht
 subst ex
 obtain rfl : u = Value.ref a := rx
 refine zcx I1 ea c hm l ?_
 exact PySem.W.callWith_K0 (first := [.ref a]) I1.kIn hm.kp (zk6 (us := [.ref a]) (vs := [.ref a]) F hr hb hd hx I1 (.cons rfl .nil) q)
structure Mk (K : y00) (C f : Addr) : Prop where
 makes : PySem.W.makesIn K C = true
 init : y0d K (.ref C) "__init__" = some (some (.ref f))
 fn : y0z K (.ref f) = true
 kp : y08 K (.ref C) = true
theorem zml {pins : List (Addr × Obj)} {σ : St} {H : Hp} {s : y04} {Q : VK} {us : List Value} {vs : List V} (M : Mk X.K C f) (F : FnOk X.prog X.w X.K X.mg X.base CX k f fd ps sp) (hr : Room (k + 1) X.A) (hb : z15 X.K fd ps ds) (hd : Vals dvs ds)
  (hx : zbt CX X E) (I : Inv X pins σ H s) (r : Vals vs us)
  (h : ∀ x dx, H x = none -> H dx = none -> dx ≠ x -> sp (.ref x :: (vs ++ dvs)) (upd (upd H dx (.own x)) x (.ins C dx [])) (fun v H2 => v = .non /\ Q (.ref x) H2) E) :
  y0v (model X.prog X.w) X.A (call (.ref C) us) (EP X pins σ Q) X.xe s := by
 have hq := h (s.heap.objs.size + 1) s.heap.objs.size (I.hok.fresh (Nat.le_succ _)) (I.hok.fresh (y0p _)) (y10 (Nat.lt_succ_self _))
 have I2 := Inv.made (C := C) I
 have r2 : Vals (V.ref (s.heap.objs.size + 1) :: (vs ++ dvs)) (Value.ref (s.heap.objs.size + 1) :: (us ++ ds)) := .cons rfl (r.append hd)
 have hl : (Value.ref (s.heap.objs.size + 1) :: us ++ ds).length = ps.length := by
  have e := r2.length
  rw [F.len _ _ _ _ hq] at e
  exact e.symm
 refine wpAny_call (zn5 (f := f) I.kIn M.makes M.init (beq_iff_eq.mp M.fn) (codeAny_mono (F.run _ X.stack _ _ ⟨Value.ref (s.heap.objs.size + 1) :: us, []⟩ (Value.ref (s.heap.objs.size + 1) :: (us ++ ds)) _ _ E (hr.make C us [])
  (I2.env0.make C us []) (hb _ (Value.ref (s.heap.objs.size + 1) :: us) I2.kIn hl) r2 hq) fun r s' hq' => ?_))
 cases r with
 | error e => exact hx pins σ _ _ e s' I2 hq'
 | ok fl =>
  cases fl with
  | ret u =>
   obtain ⟨v, H', I3, rv, ev, q3⟩ := I2.after hq'
   subst ev
   exact ⟨rv, ⟨V.ref (s.heap.objs.size + 1), H', I3, rfl, q3⟩⟩
  | next => exact y24 hq'
  | brk => exact y24 hq'
  | cont => exact y24 hq'
theorem zpf (M : Mk X.K C f) (F : FnOk X.prog X.w X.K X.mg X.base CX k f fd ps sp) (hr : Room (k + 1) X.A) (hg : Gl X x) (hm : X.mg x = some (.ref C)) (hb : z15 X.K fd ps ds) (hd : Vals dvs ds) (hx : zbt CX X E)
  (ha : PA X (e :: es) t) (hdb : (x == ("__debug__" : Str)) = false := by decide) (he : y0a (e :: es) X.env = (false, eval e X.env) :: y0a es X.env := by rfl) (hpl : (backTo pos (y0a es X.env)).any (·.1) = false := by rfl) :
  PE X (.Call (.Name x p) (e :: es) [] pos) (zse C sp dvs E t) := by
 intro pins s σ H Q I h
 refine wpAny_Call_Name_kw (zgy I hg hm ?_ hdb)
 refine PySem.W.callWith_K (h₀ := X.base) I.ok.mod.kin M.kp (thn (ha pos pins s σ H _ I h) fun us s1 ⟨vs, H1, I1, r, q⟩ => ⟨I1.kIn, ?_⟩) he hpl
 exact zml M F hr hb hd hx I1 r q
end
section
variable {X : Cx} {CX : CXT} {k : Nat} {f C : Addr} {fd : y0b} {ps ks : List Str} {sp : Sp} {E : XK} {x m : Str} {p pos apos kpos : Pos} {e o : Expr} {es : List Expr} {kws : List Keyword} {te ta : TE} {t tk : TA} {nm : Option Str}
variable {g : List Value -> List Value -> List Value} {gV : List V -> List V -> List V}
end
structure FnScope (N P : List Str) (sc : Scope) : Prop where
 kind : sc.kind = .function
 co : sc.isCoroutine = false
 gen : sc.isGenerator = false
 nd : N.Nodup
 pre : N.take P.length = P
 par : ∀ x ∈ P, sc.names.lookup x = some .local \/ sc.names.lookup x = some .cell
 nofree : ∀ y ∈ sc.names, y.2 ≠ .free
theorem zfs {kindOf : Str -> Option NameKind} {x : Str} : ∀ {binds : List (Str × Value)} {m : Str -> Option Value}, (∀ v, (x, v) ∉ binds) -> bindL kindOf binds m x = m x
  | [], _, _ => rfl
  | (n, v) :: r, m, h => by
    unfold bindL
    rw [zfs fun w hw => h w (y05 _ hw)]
    split
    · have : x ≠ n := by rintro rfl; exact h v y0f
      simp [this]
    · rfl
theorem zfu {kindOf : Str -> Option NameKind} {x : Str} : ∀ {binds : List (Str × Value)} {m : Str -> Option Value}, (∀ v, (x, v) ∉ binds) -> bindC kindOf binds m x = m x
  | [], _, _ => rfl
  | (n, v) :: r, m, h => by
    unfold bindC
    rw [zfu fun w hw => h w (y05 _ hw)]
    split
    · rfl
    · have : x ≠ n := by rintro rfl; exact h v y0f
      simp [this]
theorem zft {kindOf : Str -> Option NameKind} {x : Str} {v : Value} : ∀ {P : List Str} {vs : List Value} {i : Nat} {m : Str -> Option Value}, P.Nodup -> P[i]? = some x -> vs[i]? = some v -> kindOf x = some .local ->
  bindL kindOf (P.zip vs) m x = some v
 | [], _, _, _, _, h, _, _ => by simp at h
 | _ :: _, [], _, _, _, _, h, _ => by simp at h
 | p :: P, w :: vs, 0, m, nd, h1, h2, hk => by
  simp at h1 h2; subst h1; subst h2
  show bindL kindOf ((p, w) :: P.zip vs) m p = _
  unfold bindL
  rw [zfs fun v hv => (y0s.mp nd).1 (List.of_mem_zip hv).1, if_pos hk]
  simp
 | p :: P, w :: vs, i + 1, m, nd, h1, h2, hk => by
  show bindL kindOf ((p, w) :: P.zip vs) m x = _
  unfold bindL
  exact zft (i := i) (y0s.mp nd).2 (by simpa using h1) (by simpa using h2) hk
theorem zfv {kindOf : Str -> Option NameKind} {x : Str} {v : Value} : ∀ {P : List Str} {vs : List Value} {i : Nat} {m : Str -> Option Value}, P.Nodup -> P[i]? = some x -> vs[i]? = some v -> kindOf x ≠ some .local ->
  bindC kindOf (P.zip vs) m x = some v
 | [], _, _, _, _, h, _, _ => by simp at h
 | _ :: _, [], _, _, _, _, h, _ => by simp at h
 | p :: P, w :: vs, 0, m, nd, h1, h2, hk => by
  simp at h1 h2; subst h1; subst h2
  show bindC kindOf ((p, w) :: P.zip vs) m p = _
  unfold bindC
  rw [zfu fun v hv => (y0s.mp nd).1 (List.of_mem_zip hv).1, if_neg hk]
  simp
 | p :: P, w :: vs, i + 1, m, nd, h1, h2, hk => by
  show bindC kindOf ((p, w) :: P.zip vs) m x = _
  unfold bindC
  exact zfv (i := i) (y0s.mp nd).2 (by simpa using h1) (by simpa using h2) hk
def start (N : List Str) (vs : List V) : St := vs.map some ++ y0h (N.length - vs.length) none
def cxOf (CX : CXT) (P : y0r) (w : World) (K : y00) (mg : Str -> Option Value) (base : Heap) (N : List Str) (qual : Str) (scope : Scope) (f : Addr) (cd : Value) (A : Around) (outer : List Env) (s : y04) (H : Hp) (E : XK) : Cx where
 prog := P
 w := w
 K := K
 mg := mg
 base := base
 A := A.deeper (envOfC qual scope s.heap.objs.size f cd)
 N := N
 s₀ := s
 H₀ := H
 env := envOfC qual scope s.heap.objs.size f cd
 outer := outer
 stack := envOfC qual scope s.heap.objs.size f cd :: outer
 ex := []
 calm := true
 fn := fun _ => true
 pn := []
 xe := fun e s' => y0v (model P w) (A.deeper (envOfC qual scope s.heap.objs.size f cd)) (leaving (envOfC qual scope s.heap.objs.size f cd) e) (fun _ s'' => CX outer H s E e s'') (fun e' s'' => CX outer H s E e' s'') s'
theorem zi6 {sc : Scope} {n : Nat} {x : Str} (h : sc.names.lookup x = some .cell) : ∃ c, (cellsFrom n sc.names []).lookup x = some c := by
 have q := PySem.W.cellsFrom_some sc.names n [] (.inl h)
 exact Option.isSome_iff_exists.mp q
theorem zla {CX : CXT} {P : y0r} {w : World} {K : y00} {mg : Str -> Option Value} {base : Heap} {N ps : List Str} {qual : Str} {scope : Scope} {f : Addr} {cd : Value} {A : Around} {outer : List Env} {s s1 : y04} {H : Hp} {E : XK} {us : List Value} {vs : List V}
  (S : FnScope N ps scope) (hd : A.handled = none) (e0 : Env0 P w K mg base A outer s H) (hl : vs.length = ps.length) (r : Vals vs us)
  (x : InCallC s s.heap.objs.size (bindL (envOfC qual scope s.heap.objs.size f cd).kindOf (ps.zip us) fun _ => none) (cellsFrom (s.heap.objs.size + 1) scope.names []) (bindC (envOfC qual scope s.heap.objs.size f cd).kindOf (ps.zip us) fun _ => none) s1) :
  Inv (cxOf CX P w K mg base N qual scope f cd A outer s H E) [] (start N vs) H s1 := by
 have hpl : ps.length <= N.length := by have := congrArg List.length S.pre; rw [List.length_take] at this; omega
 obtain ⟨h1, tk, rfl, hk⟩ := x.done
 have noA : ∀ b : Addr, b ∉ (cxOf CX P w K mg base N qual scope f cd A outer s H E).ex := fun b z => absurd (show b ∈ ([] : List Addr) from z) (by simp)
 refine ⟨⟨e0.mod, S.kind, rfl, rfl, y0p _, fun y z c h1 h2 => ?_, fun y hy => ?_, fun y c _ h => ?_, fun _ => hd, Around.frames_deeper e0.frames, .inr ⟨rfl, rfl⟩, fun b z => absurd z (noA b), e0.bs, e0.bsz, fun b _ _ => noA b, fun b z => absurd z (noA b), e0.funs, e0.frf⟩,
  rfl, e0.bare, Un.kept hk, ⟨_, x.toInCall.ns, fun i y v h1 h2 h3 => ?_⟩, fun y c h => ⟨_, x.cell y c h⟩, e0.hok.fresh (y0p _), fun y c h => ?_, fun p hp => absurd (show p ∈ ([] : List (Addr × Obj)) from hp) (by simp), e0.hok.kept hk, ?_⟩
 ·exact name_of_addr x.apart (y2j h1) (y2j h2)
 ·have hy : scope.names.lookup y = some .cell \/ scope.names.lookup y = some .free := hy
  rcases hy with hy | hy
  ·exact zi6 hy
  ·exact absurd rfl (S.nofree _ (y2j hy))
 ·exact Nat.le_of_lt (x.above y c (y2j h))
 ·have hi : i < vs.length := by
   unfold start at h2
   by_cases hi : i < vs.length
   ·exact hi
   ·rw [y1p (by simpa using hi)] at h2
    rw [List.getElem?_replicate] at h2
    split at h2 <;> cases h2
  have ha : vs[i]? = some v := by
   unfold start at h2
   rw [y1s (by simpa using hi), y17] at h2
   cases e : vs[i]? with
   | none => rw [e] at h2; cases h2
   | some a => rw [e] at h2; cases h2; rfl
  obtain ⟨u, hu, rv⟩ := r.get ha
  have hp : ps[i]? = some y := by
   rw [<- S.pre, List.getElem?_take_of_lt (by omega)]; exact h1
  have ndP : ps.Nodup := by rw [<- S.pre]; exact S.nd.sublist (List.take_sublist _ _)
  refine ⟨u, rv, ?_⟩
  rcases S.par y (y21 hp) with k | k
  ·exact .inl ⟨k, zft ndP hp hu k⟩
  ·obtain ⟨c, e⟩ := zi6 (n := s.heap.objs.size + 1) k
   refine .inr ⟨.inl k, c, e, ?_⟩
   have q := x.cell y c e
   rw [zfv ndP hp hu (by show scope.names.lookup y ≠ _; rw [k]; decide)] at q
   exact q
 ·exact e0.hok.fresh (Nat.le_of_lt (x.above y c (y2j h)))
 ·unfold start
  show _ = N.length
  rw [y2a, y16, List.length_replicate]
  omega
theorem zt9 {CX : CXT} {P : y0r} {w : World} {K : y00} {mg : Str -> Option Value} {base : Heap} {k : Nat} {f : Addr} {name qual : Str} {params : Arguments} {body : List Stmt} {scope : Scope} {dV kV doc pm cdv ct oc : Value} {an od : Option Addr}
  {osl : Array (Option Value)} {N ps : List Str} {sp : Sp} (lk : K.lookup f = some ⟨oc, od, .func (y0j name qual params body scope dV kV doc pm an cdv ct), osl⟩) (hcd : y0g K cdv qual = true) (S : FnScope N ps scope)
  (len : ∀ vs H Q E, sp vs H Q E -> vs.length = ps.length)
  (hbody : ∀ (A : Around) (outer : List Env) (s : y04) (H : Hp) (vs : List V) (Q : VK) (E : XK), Room k (A.deeper (envOfC qual scope s.heap.objs.size f cdv)) -> sp vs H Q E ->
   ∃ t, PSs (cxOf CX P w K mg base N qual scope f cdv A outer s H E) body t /\ t { nx := fun _ H' => Q .non H', rt := Q } (start N vs) H) :
  FnOk P w K mg base CX (k + 1) f (y0j name qual params body scope dV kV doc pm an cdv ct) ps sp := by
 refine ⟨len, fun A outer s H args us vs Q E hr e0 hb r hsp => ?_⟩
 have hl := len _ _ _ _ hsp
 have KX : K.In s.heap := e0.mod.kin.keeps fun b o e => (e0.bs b o e).1
 have lim : s.heap.NoLimit := e0.mod.nolimit.keeps fun b o e => (e0.bs b o e).1
 have hkind : ∀ y ∈ ps.zip us, scope.names.lookup y.1 = some .local \/ (scope.names.lookup y.1 = some .cell /\ ((cellsFrom (s.heap.objs.size + 1) scope.names []).lookup y.1).isSome = true) := fun ⟨n, v⟩ hy => by
  rcases S.par n (List.of_mem_zip hy).1 with q | q
  ·exact .inl q
  ·exact .inr ⟨q, PySem.W.cellsFrom_some _ _ _ (.inl q)⟩
 refine codeAny_call_function hr.depth (KX _ _ lk) rfl S.co S.gen rfl (PySem.W.codeRec_of KX hcd) (hb _ _ _ _ ?_)
 refine wpAny_newFunctionEnv_cells S.kind hkind fun env he s1 x => ?_
 subst he
 refine ⟨lim.keeps x.toInCall.keep, codeAny_func ?_⟩
 obtain ⟨t, ht, hq⟩ := hbody A outer s H vs Q E (hr.deeper _) hsp
 have I : Inv (cxOf CX P w K mg base N qual scope f cdv A outer s H E) [] (start N vs) H s1 := zla S hr.hd e0 hl r x
 refine y1g (ht [] s1 (start N vs) H _ I hq) (fun fl s' hs => ?_) fun e s' hs => hs
 have fin : ∀ {σ' : St} {H' : Hp} {v : V} {u : Value}, Inv (cxOf CX P w K mg base N qual scope f cdv A outer s H E) [] σ' H' s' -> RelV v u -> Q v H' -> CE outer P w H s Q u s' :=
  fun {σ' H' v u} J rv q => ⟨v, H', J.os, J.bare, J.base, J.hok, rv, q⟩
 cases fl with
 | ret u =>
  obtain ⟨v, σ', H', J, rv, q⟩ := hs
  exact fin J rv q
 | next =>
  obtain ⟨σ', H', J, q⟩ := hs
  exact fin (v := V.non) (u := Value.none) J rfl q
 | brk =>
  obtain ⟨_, _, _, q⟩ := hs
  exact y24 q
 | cont =>
  obtain ⟨_, _, _, q⟩ := hs
  exact y24 q
end L2
namespace L2
open PySem PySem.Spec PyProof.Rows
section
variable {X : Cx} {x : Str} {p pos : Pos} {e : Expr} {es : List Expr} {t : TA} {id T : String} {r : List V -> Hp -> VK -> Prop}
def tCB (r : List V -> Hp -> VK -> Prop) (t : TA) : TE := fun σ H Q => t σ H fun vs H1 => r vs H1 Q
theorem za4 (hc : z90 X (.builtin id) r) (hg : Gl X x) (hm : X.mg x = none) (hv : bootBuiltins x = some (.builtin id)) (ha : PA X (e :: es) t) (hn : x ≠ "__name__" := by decide) (hdb : (x == ("__debug__" : Str)) = false := by decide)
  (he : y0a (e :: es) X.env = (false, eval e X.env) :: y0a es X.env := by rfl) (hpl : (backTo pos (y0a es X.env)).any (·.1) = false := by rfl) : PE X (.Call (.Name x p) (e :: es) [] pos) (tCB r t) := by
 intro pins s σ H Q I h
 refine wpAny_Call_Name_kw (zcs I hg hm hv ?_ hn hdb)
 exact PyProof.Rows.callWith_builtin1 (thn (ha pos pins s σ H _ I h) fun us s1 ⟨vs, H1, I1, r1, q1⟩ => hc pins s1 σ H1 vs us Q I1 r1 q1) he hpl
theorem z8f (hc : z90 X (.type T) r) (hg : Gl X x) (hm : X.mg x = none) (hv : bootBuiltins x = some (.type T)) (ha : PA X (e :: es) t) (hn : x ≠ "__name__" := by decide) (hdb : (x == ("__debug__" : Str)) = false := by decide)
  (he : y0a (e :: es) X.env = (false, eval e X.env) :: y0a es X.env := by rfl) (hpl : (backTo pos (y0a es X.env)).any (·.1) = false := by rfl) : PE X (.Call (.Name x p) (e :: es) [] pos) (tCB r t) := by
 intro pins s σ H Q I h
 refine wpAny_Call_Name_kw (zcs I hg hm hv ?_ hn hdb)
 exact y1z (thn (ha pos pins s σ H _ I h) fun us s1 ⟨vs, H1, I1, r1, q1⟩ => hc pins s1 σ H1 vs us Q I1 r1 q1) he hpl
end
end L2
namespace HT
open PySem PyProof.Rows
section
open PySem.SeqAt
open PySem.AutoSeq1 (wpAny_loadPart')
open PySem.MeetsSeq PySem.MeetsSeq2 PySem.MeetsSeq3
end
section
variable {prog : y0r} {w : World} {A : Around} {E : Value -> y04 -> Prop} {s : y04}
theorem cat_tup {t b : Addr} {vs ws : List Value} {Q : Value -> y04 -> Prop} (ht : IsTup s.heap t vs.toArray) (hb : IsTup s.heap b ws.toArray) (hv : vs ≠ [])
  (h1 : ws = [] -> Q (.ref t) s) (h2 : ws ≠ [] -> Q (.ref s.heap.objs.size) { s with heap := s.heap.push { cls := .type "tuple", data := .seq (vs ++ ws).toArray } })
  (hsz : vs.length + ws.length <= y0k) : y0v (model prog w) A (binaryOp .Add (.ref t) (.ref b)) Q E s := by
 obtain ⟨⟨cls, dd, data, sl⟩, ho, hc, n, hd⟩ := id ht
 obtain ⟨⟨cls2, dd2, data2, sl2⟩, ho2, hc2, n2, hd2⟩ := id hb
 simp only at hc hd hc2 hd2
 subst hc hd hc2 hd2
 have e : vs.toArray ++ ws.toArray = (vs ++ ws).toArray := by simp
 by_cases hw : ws = []
 ·exact concat_meets ⟨_, ho, rfl⟩ ⟨_, ho2, rfl⟩ noFill_tuple_add seq_tuple_add PySem.F.slot_tuple_add PySem.F.entry_tuple_add (PySem.F.args_tuple_add_2 _ _)
   (tuple_addW1 t b vs.toArray ws.toArray n n2 dd dd2 sl sl2 (by simpa using hv) (by simp [hw])) ⟨ho, ho2, h1 hw⟩
 ·refine concat_meets ⟨_, ho, rfl⟩ ⟨_, ho2, rfl⟩ noFill_tuple_add seq_tuple_add PySem.F.slot_tuple_add PySem.F.entry_tuple_add (PySem.F.args_tuple_add_2 _ _)
   (tuple_addW2 t b vs.toArray ws.toArray n n2 dd dd2 sl sl2 (by simpa using hv) (by simpa using hw) (by rw [y0i, y0i]; exact hsz)) ⟨ho, ho2, ?_⟩
  rw [e]
  exact h2 hw
def sIx (n d : Nat) : Option Int -> Nat
 | none => d
 | some v => if v < 0 then (v + (n : Int)).toNat else min v.toNat n
theorem zqs (n d : Nat) (hd : d <= n) (o : Option Int) : sIx n d o <= n := by
 cases o with
 | none => exact hd
 | some v =>
  show (if v < 0 then (v + (n : Int)).toNat else min v.toNat n) <= n
  by_cases hv : v < 0
  ·rw [if_pos hv]; omega
  ·rw [if_neg hv]; exact Nat.min_le_right _ _
theorem zls (v : Int) (n d : Nat) : (if v < 0 then max (v + (n : Int)) 0 else min v (n : Int)) = ((sIx n d (some v) : Nat) : Int) := by
 show (if v < 0 then max (v + (n : Int)) 0 else min v (n : Int)) = (((if v < 0 then (v + (n : Int)).toNat else min v.toNat n) : Nat) : Int)
 by_cases hv : v < 0
 ·simp only [if_pos hv]; omega
 ·simp only [if_neg hv]; omega
theorem zjo (lo hi : Option Int) (n : Nat) : Builtin.Slice.sliceAdjust lo hi 1 (n : Int) = (((sIx n 0 lo : Nat) : Int), ((sIx n n hi : Nat) : Int)) := by
 have h1 : ¬ ((1 : Int) < 0) := by omega
 unfold Builtin.Slice.sliceAdjust
 simp only [h1, if_false]
 refine Prod.ext ?_ ?_
 ·cases lo with
  | none => rfl
  | some v => exact zls v n 0
 ·cases hi with
  | none => rfl
  | some v => exact zls v n n
theorem zik (i j : Nat) : y1m (i : Int) (j : Int) 1 = j - i := by
 unfold y1m
 have h1 : (1 : Int) > 0 := by omega
 simp only [h1, if_true, Int.ediv_one]
 split <;> omega
theorem zc8 {v : Value} {o : Option Int} {Q : Option Int -> y04 -> Prop} (p : IsPart v o) (h : Q o s) : y0v (model prog w) A (Builtin.Slice.slicePartIndex v) Q E s := by
 cases p with
 | none => exact slicePart_none h
 | int i t => exact slicePart_int h
theorem sliceApplied_gen {sl : Addr} {vl vu : Value} {lo hi : Option Int} {n : Nat} {Q : Int × Int × Nat -> y04 -> Prop} (hs : s.heap.IsSliceOf sl vl vu .none) (pl : IsPart vl lo) (pu : IsPart vu hi)
  (h : Q (((sIx n 0 lo : Nat) : Int), 1, sIx n n hi - sIx n 0 lo) s) : y0v (model prog w) A (Builtin.Slice.sliceApplied (.ref sl) (pure (n : Int))) Q E s := by
 obtain ⟨os, hos, hcs, hds⟩ := id hs
 unfold Builtin.Slice.sliceApplied Builtin.Slice.sliceFields
 refine y02 (y02 (wpAny_field hos hds (x := vl) rfl (y02 (wpAny_field hos hds (x := vu) rfl (y02 (wpAny_field hos hds (x := .none) rfl (y06 ?_)))))))
 refine y02 (slicePart_none ?_)
 show y0v _ _ (if ((1 : Int) == 0) = true then _ else _) _ _ s
 rw [if_neg (by decide)]
 refine y02 (zc8 pl (y02 (zc8 pu (y02 (y06 ?_)))))
 show y0v _ _ (match Builtin.Slice.sliceAdjust lo hi 1 (n : Int) with | (lo, hi) => pure (lo, (1 : Int), y1m lo hi 1)) _ _ s
 rw [zjo lo hi n]
 show y0v _ _ (pure (((sIx n 0 lo : Nat) : Int), (1 : Int), y1m ((sIx n 0 lo : Nat) : Int) ((sIx n n hi : Nat) : Int) 1)) _ _ s
 rw [zik]
 exact y06 h
theorem zmt (xs : Array Value) (i k : Nat) : ((List.range k).filterMap fun (m : Nat) => xs[((i : Int) + (m : Int) * 1).toNat]?).toArray = ((xs.toList.drop i).take k).toArray := by
 have e : (fun (m : Nat) => xs[((i : Int) + (m : Int) * 1).toNat]?) = fun m => xs[i + m]? := by
  funext m
  have : ((i : Int) + (m : Int) * 1).toNat = i + m := by omega
  rw [this]
 rw [e]
 have := pick_run xs i k
 rw [List.filterMap_map] at this
 have e2 : ((fun x => xs[x]?) ∘ fun x => i + x) = fun m => xs[i + m]? := rfl
 rw [e2] at this
 rw [this]
theorem getItem_tuple_cut {t sl : Addr} {items : Array Value} {vl vu : Value} {lo hi : Option Int} {Q : Value -> y04 -> Prop} (ht : IsTup s.heap t items) (hs : s.heap.IsSliceOf sl vl vu .none) (pl : IsPart vl lo) (pu : IsPart vu hi)
  (hw : ¬ (sIx items.size 0 lo = 0 /\ sIx items.size items.size hi = items.size))
  (h : Q (.ref s.heap.objs.size) { s with heap := s.heap.push { cls := .type "tuple", data := .seq ((items.toList.drop (sIx items.size 0 lo)).take (sIx items.size items.size hi - sIx items.size 0 lo)).toArray } })
  (hsz : items.size <= y0k) : y0v (model prog w) A (getItem (.ref t) (.ref sl)) Q E s := by
 have htake : sizeOk (.seq ((items.toList.drop (sIx items.size 0 lo)).take (sIx items.size items.size hi - sIx items.size 0 lo)).toArray) := by
  show ((items.toList.drop (sIx items.size 0 lo)).take (sIx items.size items.size hi - sIx items.size 0 lo)).toArray.size <= y0k
  rw [y0i, List.length_take, List.length_drop, y27]
  omega
 have hj : sIx items.size items.size hi <= items.size := zqs _ _ (y0p _) hi
 obtain ⟨os, hos, hcs, hds⟩ := id hs
 have hTs : s.TypeIs (.ref sl) "slice" := ⟨os, hos, hcs⟩
 unfold getItem
 try with_reducible refine wpAny_holding ?_
 first | refine y02 (y06 ?_) | skip
 refine y02 (wpAny_sequenceKey ht.typeIs (by decide) ?_)
 refine y02 (wpAny_callSpecial?_slot (name := Str.ofString "__getitem__") ht.typeIs y1k
  (wpAny_call_entry y1k ht.typeIs entry_tuple_getitem ?_ (args_tuple_getitem _ _)))
 show y0v _ _ (Builtin.Tuple.tupleItemsOf (.ref t) >>= _) _ _ s
 refine y02 (tupleItemsOf_ ht ?_)
 refine y02 (wpAny_typeOf hTs ?_)
 rw [if_pos (by decide)]
 refine y02 (sliceApplied_gen hs pl pu ?_)
 have hno : ¬ ((((sIx items.size 0 lo : Nat) : Int) == 0 && (1 : Int) == 1 && (sIx items.size items.size hi - sIx items.size 0 lo) == items.size) = true) := by
  intro q
  rw [y1e, y1e] at q
  have q1 : ((sIx items.size 0 lo : Nat) : Int) = 0 := eq_of_beq q.1.1
  have q2 : sIx items.size items.size hi - sIx items.size 0 lo = items.size := eq_of_beq q.2
  exact hw ⟨by omega, by omega⟩
 show y0v _ _ (if (((sIx items.size 0 lo : Nat) : Int) == 0 && (1 : Int) == 1 && (sIx items.size items.size hi - sIx items.size 0 lo) == items.size) = true then _ else _) _ _ s
 rw [if_neg hno, zmt]
 first
  | exact y02 (m := y15 _) (wpAny_newObj_type (y06 ⟨_, rfl, y06 h⟩) htake)
  | exact y02 (m := y15 _) (wpAny_newObj_type (y02 (y06 (y06 ⟨_, rfl, y06 h⟩))) htake)
  | exact y02 (y02 (m := y15 _) (wpAny_newObj_type (y06 (y06 ⟨_, rfl, y06 h⟩)) htake))
  | exact y02 (y02 (m := y15 _) (wpAny_newObj_type (y06 ⟨_, rfl, y06 h⟩) htake))
end
end HT
namespace L2
open PySem PySem.Spec PyProof.Rows
abbrev TO := St -> Hp -> (Option Int -> Hp -> Prop) -> Prop
def PO (X : Cx) (e : Option Expr) (t : TO) : Prop :=
 ∀ (pins : List (Addr × Obj)) (s : y04) (σ : St) (H : Hp) (Q : Option Int -> Hp -> Prop), Inv X pins σ H s -> t σ H Q ->
  y0v (model X.prog X.w) X.A (evalPart e X.env) (fun u s' => ∃ o H', Inv X pins σ H' s' /\ IsPart u o /\ Q o H') X.xe s
def zoq : TO := fun _ H Q => Q none H
def zsb (t : TE) : TO := fun σ H Q => t σ H fun x H1 => ∃ i, x = .int i /\ Q (some i) H1
theorem zj5 {ns : List Int} : ∀ {us : List Value}, Vals (ns.map V.int) us -> IntsAre us ns := by
 induction ns with
 | nil => intro us r; rw [y1c] at r; cases r; exact .nil
 | cons n ns ih =>
  intro us r
  rw [y0e] at r
  cases r with
  | cons r1 r2 =>
   obtain ⟨t, e⟩ := r1
   subst e
   exact .cons n t (ih r2)
section
variable {X : Cx} {e : Expr} {te : TE} {lo hi : Option Expr} {tl th : TO} {pos p2 : Pos}
theorem zpa : PO X none zoq := by
 intro pins s σ H Q I h
 rw [evalPart_none]
 exact y06 ⟨none, H, I, .none, h⟩
theorem zp9 (h : PE X e te) : PO X (some e) (zsb te) := by
 intro pins s σ H Q I hw
 rw [evalPart_some]
 refine thn (h pins s σ H _ I hw) fun u s1 ⟨x, H1, I1, r1, q1⟩ => ?_
 obtain ⟨i, rfl, q⟩ := q1
 obtain ⟨t, rfl⟩ := r1
 exact ⟨some i, H1, I1, .int i t, q⟩
def SlR (X : Cx) (r : V -> Option Int -> Option Int -> Hp -> VK -> Prop) : Prop :=
 ∀ (pins : List (Addr × Obj)) (s : y04) (σ : St) (H : Hp) (x : V) (v vl vu : Value) (lo hi : Option Int) (sl : Addr) (Q : VK), Inv X pins σ H s -> RelV x v -> s.heap.IsSliceOf sl vl vu .none -> IsPart vl lo -> IsPart vu hi -> r x lo hi H Q ->
  ∃ T id, typeLookup (.type T) "__getitem__" = pure (some (.builtin id)) /\ s.TypeIs v T /\ y0v (model X.prog X.w) X.A (getItem v (.ref sl)) (EP X pins σ Q) X.xe s
theorem SlR.or {r r' : V -> Option Int -> Option Int -> Hp -> VK -> Prop} (h : SlR X r) (h' : SlR X r') : SlR X (fun x lo hi H Q => r x lo hi H Q \/ r' x lo hi H Q) := by
 intro pins s σ H x v vl vu lo hi sl Q I rx hs pl pu q
 rcases q with q | q
 ·exact h pins s σ H x v vl vu lo hi sl Q I rx hs pl pu q
 ·exact h' pins s σ H x v vl vu lo hi sl Q I rx hs pl pu q
def tSl (r : V -> Option Int -> Option Int -> Hp -> VK -> Prop) (te : TE) (tl th : TO) : TE := fun σ H Q => te σ H fun x H1 => tl σ H1 fun l H2 => th σ H2 fun u H3 => r x l u H3 Q
theorem zmv {r : V -> Option Int -> Option Int -> Hp -> VK -> Prop} (hr : SlR X r) (he : PE X e te) (hl : PO X lo tl) (hu : PO X hi th) : PE X (.Subscript e (.Slice lo hi none p2) pos) (tSl r te tl th) := by
 intro pins s σ H Q I h
 refine Subscript_ (thn (he pins s σ H _ I h) fun v s1 ⟨x, H1, I1, r1, q1⟩ => ?_)
 refine wpAny_Slice (thn (hl pins s1 σ H1 _ I1 q1) fun vl s2 ⟨l, H2, I2, pl, q2⟩ => thn (hu pins s2 σ H2 _ I2 q2) fun vu s3 ⟨u, H3, I3, pu, q3⟩ => ?_)
 rw [evalPart_none]
 refine y06 ?_
 have I4 : Inv X pins σ H3 { s3 with heap := s3.heap.push { cls := .type "slice", data := .fields #[vl, vu, .none] } } := I3.kept (t' := s3.toks) fun b ob q => y03 _ q
 obtain ⟨T, id, hT, ht, hg⟩ := hr pins { s3 with heap := s3.heap.push { cls := .type "slice", data := .fields #[vl, vu, .none] } } σ H3 x v vl vu l u s3.heap.objs.size Q I4 r1 (Heap.IsSliceOf.new ..) pl pu q3
 show y0v (model X.prog X.w) X.A (subscriptTail e (.Slice lo hi none p2) v (.ref s3.heap.objs.size)) (EP X pins σ Q) X.xe { s3 with heap := s3.heap.push { cls := .type "slice", data := .fields #[vl, vu, .none] } }
 exact tail_any (ops := [.ref s3.heap.objs.size, v]) ht hT hg (by with_unfolding_all rfl)
def cutV (xs : List V) (lo hi : Option Int) : List V := (xs.drop (HT.sIx xs.length 0 lo)).take (HT.sIx xs.length xs.length hi - HT.sIx xs.length 0 lo)
theorem zbi (xs : List V) (lo hi : Option Int) : (cutV xs lo hi).length <= xs.length := by
 unfold cutV
 rw [List.length_take, List.length_drop]
 omega
def rSlT (K : y00) : V -> Option Int -> Option Int -> Hp -> VK -> Prop := fun x lo hi H Q => ∃ a xs, x = .ref a /\ SqT K H a xs /\
 ¬ (HT.sIx xs.length 0 lo = 0 /\ HT.sIx xs.length xs.length hi = xs.length) /\ ∀ p, H p = none -> Q (.ref p) (upd H p (.tup (cutV xs lo hi)))
theorem zqo : SlR X (rSlT X.K) := by
 intro pins s σ H x v vl vu lo hi sl Q I rx hs pl pu h
 obtain ⟨a, xs, rfl, hx, hw, q⟩ := h
 cases rx
 obtain ⟨its, r, ht, hz⟩ := I.tuple hx
 have hlen : its.toArray.size = xs.length := by rw [y0i]; exact r.length.symm
 refine ⟨"tuple", _, PyProof.Rows.slot_tuple_getitem.lookup, ht.typeIs, ?_⟩
 refine HT.getItem_tuple_cut ht hs pl pu (by rw [hlen]; exact hw) ?_ (by rw [hlen]; exact hz)
 rw [hlen]
 refine ⟨.ref s.heap.objs.size, _, I.laid (t' := s.toks) (o := .tup (cutV xs lo hi)) (fun b ob q => y03 _ q) (y0p _) ?_, rfl, q _ (I.hok.fresh (y0p _))⟩
 exact ⟨y1u (zbi xs lo hi) hz, _, (r.drop (HT.sIx xs.length 0 lo)).take (HT.sIx xs.length xs.length hi - HT.sIx xs.length 0 lo), IsTup.new _ _⟩
def zso (K : y00) : R2 := fun x y H Q => ∃ a b xs ys, x = .ref a /\ y = .ref b /\ SqT K H a xs /\ SqT K H b ys /\ xs ≠ [] /\ xs.length + ys.length <= y0k /\
 (ys = [] -> Q (.ref a) H) /\ (ys ≠ [] -> ∀ p, H p = none -> Q (.ref p) (upd H p (.tup (xs ++ ys))))
theorem Vals.nil_iff {xs : List V} {us : List Value} (r : Vals xs us) : us = [] <-> xs = [] := by
 cases r with
 | nil => simp
 | cons _ _ => simp
theorem zpo : OpR X (binaryOp .Add) (zso X.K) := by
 intro pins s σ H x y v u Q I rx ry h
 obtain ⟨a, b, xs, ys, rfl, rfl, ha, hb, hx, hz, q1, q2⟩ := h
 cases rx
 cases ry
 obtain ⟨its, r1, p1, _⟩ := I.tuple ha
 obtain ⟨its2, r2, p2, _⟩ := I.tuple hb
 refine HT.cat_tup p1 p2 (fun z => hx (r1.nil_iff.mp z)) (fun z => ⟨.ref a, H, I, rfl, q1 (r2.nil_iff.mp z)⟩) (fun z => ?_) (by rw [<- r1.length, <- r2.length]; exact hz)
 refine ⟨.ref s.heap.objs.size, _, I.laid (t' := s.toks) (o := .tup (xs ++ ys)) (fun b ob q => y03 _ q) (y0p _) ?_, rfl, q2 (fun w => z (r2.nil_iff.mpr w)) _ (I.hok.fresh (y0p _))⟩
 exact ⟨by rw [y2a]; exact hz, _, r1.append r2, IsTup.new _ _⟩
end
end L2
namespace L2
open PySem PySem.Spec PyProof.Rows
def ixN (n : Nat) (i : Int) : Option Nat := if 0 <= i then (if i < n then some i.toNat else none) else if -(n : Int) <= i then some (i + n).toNat else none
def atI {α : Type} (xs : List α) (i : Int) : Option α := (ixN xs.length i).bind fun j => xs[j]?
theorem zpz {n : Nat} {i : Int} {j : Nat} (h : ixN n i = some j) : seqIndex? i n = some j /\ j < n /\ -(n : Int) <= i /\ i < n := by
 unfold ixN at h
 by_cases h0 : 0 <= i
 ·rw [if_pos h0] at h
  by_cases h1 : i < n
  ·rw [if_pos h1] at h
   have e : i.toNat = j := Option.some.inj h
   exact ⟨by rw [seqIndex_of h0 h1, e], by omega, by omega, h1⟩
  ·rw [if_neg h1] at h; cases h
 ·rw [if_neg h0] at h
  by_cases h1 : -(n : Int) <= i
  ·rw [if_pos h1] at h
   have e : (i + n).toNat = j := Option.some.inj h
   exact ⟨by rw [seqIndex_neg (by omega) h1, e], by omega, h1, by omega⟩
  ·rw [if_neg h1] at h; cases h
theorem zhc {α : Type} {xs : List α} {i : Int} {v : α} (h : atI xs i = some v) : ∃ j, seqIndex? i xs.length = some j /\ xs[j]? = some v /\ j < xs.length /\ -(xs.length : Int) <= i /\ i < xs.length := by
 unfold atI at h
 cases e : ixN xs.length i with
 | none => rw [e] at h; cases h
 | some j =>
  rw [e] at h
  obtain ⟨h1, h2, h3, h4⟩ := zpz e
  exact ⟨j, h1, h, h2, h3, h4⟩
def zm2 (b : Expr) : Prop := ∀ o i, subscripted b false o i = operate [o, i] (getItem o i)
def IxR (X : Cx) (r : R2) : Prop :=
 ∀ (value slice : Expr) (pins : List (Addr × Obj)) (s : y04) (σ : St) (H : Hp) (x y : V) (v u : Value) (Q : VK), Inv X pins σ H s -> RelV x v -> RelV y u -> r x y H Q ->
  subscripted slice false v u = operate [v, u] (getItem v u) -> y0v (model X.prog X.w) X.A (subscriptTail value slice v u) (EP X pins σ Q) X.xe s
def MtR (X : Cx) (id : String) (r : V -> List V -> Hp -> VK -> Prop) : Prop :=
 ∀ (pins : List (Addr × Obj)) (s : y04) (σ : St) (H : Hp) (x : V) (xs : List V) (v : Value) (us : List Value) (Q : VK), Inv X pins σ H s -> RelV x v -> Vals xs us -> r x xs H Q ->
  y0v (model X.prog X.w) X.A (call (.builtin id) (v :: us)) (EP X pins σ Q) X.xe s
section
variable {X : Cx} {a b : Expr} {ta tb : TE} {pos : Pos}
theorem IxR.or {r r' : R2} (h : IxR X r) (h' : IxR X r') : IxR X (fun x y H Q => r x y H Q \/ r' x y H Q) := by
 intro value slice pins s σ H x y v u Q I rx ry q hs
 rcases q with q | q
 ·exact h value slice pins s σ H x y v u Q I rx ry q hs
 ·exact h' value slice pins s σ H x y v u Q I rx ry q hs
theorem zt1 {r : R2} (hr : IxR X r) (ha : PE X a ta) (hb : PE X b tb) (hs : zm2 b) : PE X (.Subscript a b pos) (tOp r ta tb) := by
 intro pins s σ H Q I h
 exact Subscript_ (binT ha hb I h fun v u s2 x y H2 I2 rx ry q => hr a b pins s2 σ H2 x y v u Q I2 rx ry q (hs _ _))
def rIxL (K : y00) : R2 := fun x y H Q => ∃ p xs i v, x = .ref p /\ y = .int i /\ SqL K H p xs /\ atI xs i = some v /\ Q v H
def rIxT (K : y00) : R2 := fun x y H Q => ∃ p xs i v, x = .ref p /\ y = .int i /\ SqT K H p xs /\ atI xs i = some v /\ Q v H
def rIxS : R2 := fun x y H Q => ∃ z i c, x = .str z /\ y = .int i /\ z.length <= y0k /\ atI z.cps.toList i = some c /\ Q (.str ⟨#[c]⟩) H
theorem zpy : IxR X (rIxL X.K) := by
 intro value slice pins s σ H x y v u Q I rx ry h hs
 obtain ⟨p, xs, i, z, rfl, rfl, hq, he, q⟩ := h
 cases rx
 obtain ⟨t, rfl⟩ := ry
 obtain ⟨its, r, pl, hz⟩ := I.list hq
 obtain ⟨j, h1, h2, h3, h4, h5⟩ := zhc he
 obtain ⟨w, ew, rw'⟩ := r.get h2
 have hl := r.length
 have hn := zcr
 have fin : EP X pins σ Q w s := ⟨z, H, I, rw', q⟩
 by_cases h0 : 0 <= i
 ·have hj : i.toNat = j := by
   rw [seqIndex_of h0 h5] at h1
   exact Option.some.inj h1
  exact item_listR pl.isList h0 (by omega) (by rw [hj]; simpa using ew) fin hs
 ·have hj : (i + (its.toArray.size : Int)).toNat = j := by
   rw [seqIndex_neg (by omega) h4] at h1
   rw [y0i, <- hl]
   exact Option.some.inj h1
  exact subscriptTail_builtinR (x := w) pl.isList.typeIs slot_list_getitem.lookup
   (wpAny_getItem_list_neg (Q := fun r s' => r = w /\ EP X pins σ Q r s') pl.isList (by omega) (by rw [y0i] <;> omega) (by omega) (by rw [hj]; simpa using ew) ⟨rfl, fin⟩) hs
theorem zrw : IxR X (rIxT X.K) := by
 intro value slice pins s σ H x y v u Q I rx ry h hs
 obtain ⟨p, xs, i, z, rfl, rfl, hq, he, q⟩ := h
 cases rx
 obtain ⟨t, rfl⟩ := ry
 obtain ⟨its, r, pl, hz⟩ := I.tuple hq
 obtain ⟨j, h1, h2, h3, h4, h5⟩ := zhc he
 obtain ⟨w, ew, rw'⟩ := r.get h2
 have hl := r.length
 have hn := zcr
 have fin : EP X pins σ Q w s := ⟨z, H, I, rw', q⟩
 exact subscriptTail_builtinR (x := w) pl.typeIs slot_tuple_getitem.lookup
  (getItem_tuple (j := j) (Q := fun r s' => r = w /\ EP X pins σ Q r s') pl (by omega) (by omega) (by rw [y0i, <- hl]; exact h1) (by simpa using ew) ⟨rfl, fin⟩) hs
theorem zrx : IxR X rIxS := by
 intro value slice pins s σ H x y v u Q I rx ry h hs
 obtain ⟨z, i, c, rfl, rfl, hz, he, q⟩ := h
 obtain ⟨t, rfl⟩ := rx
 obtain ⟨t', rfl⟩ := ry
 obtain ⟨j, h1, h2, h3, h4, h5⟩ := zhc he
 have hl : z.cps.toList.length = z.length := by simp [Str.length]
 rw [hl] at h1 h4 h5
 have hn := zcr
 exact tail_any (typeIs_str s z t) slot_str_getitem.lookup (getItem_str (c := c) (by
  have e1 : decide (i < -(2 ^ 63 : Int)) = false := decide_eq_false (by omega)
  have e2 : decide (i >= 2 ^ 63) = false := decide_eq_false (by omega)
  rw [e1, e2, Bool.or_false]) (by rw [h1]; simpa using h2) ⟨.str ⟨#[c]⟩, H, I.tok _, ⟨_, rfl⟩, q⟩) hs
def rIx (K : y00) : R2 := fun x y H Q => rIxL K x y H Q \/ rIxT K x y H Q \/ rIxS x y H Q
theorem zry : IxR X (rIx X.K) := zpy.or (zrw.or zrx)
theorem zeb (lo hi : Option Int) (n : Nat) : (sliceBounds lo hi none n).1 = ((HT.sIx n 0 lo : Nat) : Int) /\ (sliceBounds lo hi none n).2.1 = ((HT.sIx n n hi : Nat) : Int) /\ (sliceBounds lo hi none n).2.2 = 1 := by
 refine ⟨?_, ?_, rfl⟩
 ·cases lo with
  | none => simp [sliceBounds, HT.sIx]
  | some i =>
   simp only [sliceBounds, HT.sIx, Option.getD_none, show (1 : Int) > 0 by decide, if_true]
   by_cases h : i < 0
   ·simp only [h, if_true] <;> omega
   ·simp only [h, if_false] <;> omega
 ·cases hi with
  | none => simp [sliceBounds, HT.sIx]
  | some i =>
   simp only [sliceBounds, HT.sIx, Option.getD_none, show (1 : Int) > 0 by decide, if_true]
   by_cases h : i < 0
   ·simp only [h, if_true] <;> omega
   ·simp only [h, if_false] <;> omega
theorem zd9 (its : List Value) (lo hi : Option Int) : slicePick its.toArray lo hi none = ((its.drop (HT.sIx its.length 0 lo)).take (HT.sIx its.length its.length hi - HT.sIx its.length 0 lo)).toArray := by
 obtain ⟨h1, h2, h3⟩ := zeb lo hi its.toArray.size
 unfold slicePick
 rw [h1, h2, h3]
 simp only [sliceRange_one, pick_run, y0i] <;> rfl
def rSlL (K : y00) : V -> Option Int -> Option Int -> Hp -> VK -> Prop := fun x lo hi H Q => ∃ a xs, x = .ref a /\ SqL K H a xs /\ ∀ p, H p = none -> Q (.ref p) (upd H p (.lst (cutV xs lo hi)))
theorem zot : SlR X (rSlL X.K) := by
 intro pins s σ H x v vl vu lo hi sl Q I rx hs pl pu h
 obtain ⟨a, xs, rfl, hx, q⟩ := h
 cases rx
 obtain ⟨its, r, ht, hz⟩ := I.list hx
 have hlen := r.length
 refine ⟨"list", _, slot_list_getitem.lookup, ht.isList.typeIs, ?_⟩
 refine wpAny_getItem_list_slice ht.isList hs pl pu .none (by simp) ?_ (by rw [y0i] <;> omega)
 rw [zd9, <- hlen]
 refine ⟨.ref s.heap.objs.size, _, I.laid (t' := s.toks) (o := .lst (cutV xs lo hi)) (fun b ob q => y03 _ q) (y0p _) ?_, rfl, q _ (I.hok.fresh (y0p _))⟩
 exact ⟨y1u (zbi xs lo hi) hz, _, 0, (r.drop (HT.sIx xs.length 0 lo)).take (HT.sIx xs.length xs.length hi - HT.sIx xs.length 0 lo), y0m _ rfl⟩
theorem zfr : z90 X (.builtin "len") (fun xs H Q => ∃ p ys, xs = [.ref p] /\ (SqL X.K H p ys \/ SqT X.K H p ys) /\ Q (.int ys.length) H) := by
 intro pins s σ H xs us Q I r h
 obtain ⟨p, ys, rfl, hq, q⟩ := h
 obtain ⟨u, rfl, rx⟩ := zg7 r
 cases rx
 have hn := zcr
 rcases hq with hq | hq
 ·obtain ⟨its, r', pl, hz⟩ := I.list hq
  have hlen := r'.length
  exact Calls.call_len_list pl.isList (by simp only [y0i] <;> omega) ⟨.int ys.length, H, I.tok _, ⟨s.toks + 1, by rw [y0i, hlen]⟩, q⟩
 ·obtain ⟨its, r', pl, hz⟩ := I.tuple hq
  have hlen := r'.length
  exact len_tuple pl (by simp only [y0i] <;> omega) ⟨.int ys.length, H, I.tok _, ⟨s.toks + 1, by rw [y0i, hlen]⟩, q⟩
theorem zfq : z90 X (.builtin "len") (fun xs H Q => ∃ z, xs = [.str z] /\ z.length <= y0k /\ Q (.int z.length) H) := by
 intro pins s σ H xs us Q I r h
 obtain ⟨z, rfl, hz, q⟩ := h
 obtain ⟨u, rfl, t, rfl⟩ := zg7 r
 have hn := zcr
 exact len_str (by omega) ⟨.int z.length, H, I.tok _, ⟨_, rfl⟩, q⟩
theorem z90.or {f : Value} {r r' : List V -> Hp -> VK -> Prop} (h : z90 X f r) (h' : z90 X f r') : z90 X f (fun xs H Q => r xs H Q \/ r' xs H Q) := by
 intro pins s σ H xs us Q I rs q
 rcases q with q | q
 ·exact h pins s σ H xs us Q I rs q
 ·exact h' pins s σ H xs us Q I rs q
theorem z9u : z90 X (.type "list") (fun xs H Q => ∃ p ys, xs = [.ref p] /\ (SqL X.K H p ys \/ SqT X.K H p ys) /\ ∀ l, H l = none -> Q (.ref l) (upd H l (.lst ys))) := by
 intro pins s σ H xs us Q I r h
 obtain ⟨p, ys, rfl, hq, q⟩ := h
 obtain ⟨u, rfl, rx⟩ := zg7 r
 cases rx
 have fin : ∀ (its : List Value), Vals ys its -> ys.length <= y0k -> ∀ (h' : Heap) (c' : Nat), (∀ b o', s.heap.get? b = some o' -> h'.get? b = some o') ->
   h'.get? s.heap.objs.size = some { cls := .type "list", dict := none, data := .seq its.toArray c', slots := #[] } -> EP X pins σ Q (.ref s.heap.objs.size) { s with heap := h' } := fun its r' hz h' c' kp e =>
  ⟨.ref s.heap.objs.size, _, I.laid (t' := s.toks) kp (y0p _) (show z5b X.prog X.w _ h' _ (.lst ys) from ⟨hz, its, c', r', e⟩), rfl, q _ (I.hok.fresh (y0p _))⟩
 rcases hq with hq | hq
 ·obtain ⟨its, r', pl, hz⟩ := I.list hq
  have hlen := r'.length
  obtain ⟨o, ho, hc, n, hd⟩ := pl.isList
  exact call_list_seq p (.inl rfl) ho hc hd (fun h' c' kp e => fin its r' hz h' c' kp e) (by simp only [y0i] <;> omega)
 ·obtain ⟨its, r', pl, hz⟩ := I.tuple hq
  have hlen := r'.length
  obtain ⟨o, ho, hc, n, hd⟩ := pl
  exact call_list_seq p (.inr rfl) ho hc hd (fun h' c' kp e => fin its r' hz h' c' kp e) (by simp only [y0i] <;> omega)
theorem zdx : z90 X (.type "tuple") (fun xs H Q => ∃ p ys, xs = [.ref p] /\ ((SqL X.K H p ys /\ ∀ l, H l = none -> Q (.ref l) (upd H l (.tup ys))) \/ (SqT X.K H p ys /\ Q (.ref p) H))) := by
 intro pins s σ H xs us Q I r h
 obtain ⟨p, ys, rfl, h⟩ := h
 obtain ⟨u, rfl, rx⟩ := zg7 r
 cases rx
 rcases h with ⟨hq, q⟩ | ⟨hq, q⟩
 ·obtain ⟨its, r', pl, hz⟩ := I.list hq
  have hlen := r'.length
  refine call_tuple_list pl.isList (fun h' kp => ?_) (by simp only [y0i] <;> omega)
  have I1 : Inv X pins σ H { s with heap := h' } := I.kept (t' := s.toks) kp
  have I2 : Inv X pins σ (upd H h'.objs.size (.tup ys)) { s with heap := h'.push { cls := .type "tuple", data := .seq its.toArray } } :=
   I1.laid (t' := s.toks) (fun b o e => y03 _ e) (y0p _) (show z5b X.prog X.w _ _ _ (.tup ys) from ⟨hz, its, r', IsTup.new _ _⟩)
  exact ⟨.ref h'.objs.size, _, I2, rfl, q _ (I1.hok.fresh (y0p _))⟩
 ·obtain ⟨its, r', pl, hz⟩ := I.tuple hq
  exact call_tuple_same pl ⟨.ref p, H, I, rfl, q⟩
def tyV (K : y00) (T : String) (x : V) (H : Hp) : Prop := match x with
 | .str _ => T = "str"
 | .int _ => T = "int"
 | .ref p => (T = "list" /\ ∃ xs, SqL K H p xs) \/ (T = "tuple" /\ ∃ o, K.lookup p = some o /\ o.cls = .type "tuple" /\ o.dict = none) \/
   (T = "dict" /\ ((∃ kvs, H p = some (.dK kvs)) \/ ∃ kvs, H p = some (.dT kvs))) \/ (T = "set" /\ ∃ S n, H p = some (.set S n))
 | _ => False
theorem znx {pins : List (Addr × Obj)} {σ : St} {H : Hp} {s : y04} {T : String} {x : V} {v : Value} (I : Inv X pins σ H s) (r : RelV x v) (ty : tyV X.K T x H) :
  s.TypeIs v T /\ ∀ a, v = .ref a -> ∃ ob, s.heap.get? a = some ob /\ ob.dict = none := by
 cases x with
 | str z =>
  obtain ⟨t, rfl⟩ := r
  cases (show T = "str" from ty)
  exact ⟨typeIs_str s z t, fun _ e => nomatch e⟩
 | int i =>
  obtain ⟨t, rfl⟩ := r
  cases (show T = "int" from ty)
  exact ⟨typeIs_int s i t, fun _ e => nomatch e⟩
 | ref p =>
  cases r
  rcases ty with ⟨rfl, xs, hq⟩ | ⟨rfl, o, hk, hc, hd⟩ | ⟨rfl, hk⟩ | ⟨rfl, S, n, hk⟩
  ·obtain ⟨its, _, pl, _⟩ := I.list hq
   refine ⟨pl.isList.typeIs, fun a e => ?_⟩
   cases e
   obtain ⟨o, n, e, c, hd, _⟩ := pl
   exact ⟨o, e, hd⟩
  ·refine ⟨⟨o, I.kIn p o hk, hc⟩, fun a e => ?_⟩
   cases e
   exact ⟨o, I.kIn _ o hk, hd⟩
  ·have z : ∃ o, s.heap.get? p = some o /\ o.ExactDict := by
    rcases hk with ⟨kvs, hk⟩ | ⟨kvs, hk⟩
    ·obtain ⟨_, _, _, _, o, _, _, e, ex, _⟩ := I.hok p _ hk
     exact ⟨o, e, ex⟩
    ·obtain ⟨_, _, _, _, o, _, _, e, ex, _⟩ := I.hok p _ hk
     exact ⟨o, e, ex⟩
   obtain ⟨o, e, ex⟩ := z
   refine ⟨⟨o, e, ex.1⟩, fun a e2 => ?_⟩
   cases e2
   exact ⟨o, e, ex.2.1⟩
  ·obtain ⟨o, _, _, _, e, ex, _⟩ := I.hok p _ hk
   refine ⟨⟨o, e, ex.1⟩, fun a e2 => ?_⟩
   cases e2
   exact ⟨o, e, ex.2.1⟩
 | _ => exact y24 ty
def tBM0 (K : y00) (T : String) (r : V -> List V -> Hp -> VK -> Prop) (to : TE) : TE := fun σ H Q => to σ H fun x H1 => tyV K T x H1 /\ r x [] H1 Q
def tBM (K : y00) (T : String) (r : V -> List V -> Hp -> VK -> Prop) (to : TE) (t : TA) : TE := fun σ H Q => to σ H fun x H1 => tyV K T x H1 /\ t σ H1 fun xs H2 => r x xs H2 Q
variable {o e : Expr} {es : List Expr} {to : TE} {t : TA} {name : Str} {apos cpos : Pos} {T id : String} {r : V -> List V -> Hp -> VK -> Prop}
theorem zri (pa : PlainAttrs T) (slot : Slot T name id) (hty : typeOf (.builtin id) = pure (.type "method_descriptor")) (hm : MtR X id r) (ho : PE X o to)
  (hbase : attributeBase o name X.env (eval o X.env) = eval o X.env := by rfl) (hline : (apos.endLine == cpos.line) = true := by rfl) : PE X (.Call (.Attribute o name apos) [] [] cpos) (tBM0 X.K T r to) := by
 intro pins s σ H Q I h
 refine wpAny_Call_method0_late hbase hline (thn (ho pins s σ H _ I h) fun v s1 ⟨x, H1, I1, r1, ty, q1⟩ => ?_)
 obtain ⟨h1, h2⟩ := znx I1 r1 ty
 exact ⟨T, id, pa, slot, hty, h1, h2, Calls.callWith_builtin rfl (PySem.evalArgs_none (hm pins s1 σ H1 x [] v [] Q I1 r1 .nil q1))⟩
theorem zpi (pa : PlainAttrs T) (slot : Slot T name id) (hty : typeOf (.builtin id) = pure (.type "method_descriptor")) (hm : MtR X id r) (ho : PE X o to) (ha : PA X (e :: es) t)
  (hbase : attributeBase o name X.env (eval o X.env) = eval o X.env := by rfl)
  (hfew : ((backTo cpos (y0a (e :: es) X.env)).all (fun x => !x.1) && (backToKw cpos (keywordEach [] X.env)).all (fun x => x.1.isSome)
   && decide ((e :: es).length + ([] : List Keyword).length + (if ([] : List Keyword).isEmpty then 0 else 1) < 30)) = true := by rfl)
  (hline : (apos.endLine == cpos.line) = true := by rfl) (hs : y0a (e :: es) X.env = (false, eval e X.env) :: y0a es X.env := by rfl) (hplain : (backTo cpos (y0a es X.env)).any (·.1) = false := by rfl) :
  PE X (.Call (.Attribute o name apos) (e :: es) [] cpos) (tBM X.K T r to t) := by
 intro pins s σ H Q I h
 refine wpAny_Call_method_late hbase hfew hline rfl (thn (ho pins s σ H _ I h) fun v s1 ⟨x, H1, I1, r1, ty, q1⟩ => ?_)
 obtain ⟨h1, h2⟩ := znx I1 r1 ty
 refine ⟨T, id, pa, slot, hty, h1, h2, ?_⟩
 have hA := ha cpos pins s1 σ H1 _ I1 q1
 rw [hs] at hA ⊢
 refine Calls.callWith_builtin (by show (false || (backTo cpos (y0a es X.env)).any (·.1)) = false; rw [hplain] <;> rfl) (Calls.evalArgs_plain ?_)
 exact thn hA fun us s2 ⟨vs, H2, I2, r2, q2⟩ => hm pins s2 σ H2 x vs v us Q I2 r1 r2 q2
end
end L2
namespace L2
open PySem PySem.Spec PyProof.Rows
def MtM (X : Cx) (id : String) (r : V -> List V -> Hp -> VK -> Prop) : Prop :=
 ∀ (pins : List (Addr × Obj)) (s : y04) (σ : St) (H : Hp) (x : V) (xs : List V) (v : Value) (us : List Value) (Q : VK), Inv X pins σ H s -> RelV x v -> Vals xs us -> r x xs H Q ->
  y0v (model X.prog X.w) X.A (call (.builtin id) (v :: us)) (EP X pins σ Q) X.xe s
theorem Vals.one : ∀ {x : V} {us : List Value}, Vals [x] us -> ∃ u, us = [u] /\ RelV x u
 | _, _, .cons r .nil => ⟨_, rfl, r⟩
theorem Vals.two : ∀ {x y : V} {us : List Value}, Vals [x, y] us -> ∃ u v, us = [u, v] /\ RelV x u /\ RelV y v
 | _, _, _, .cons r (.cons q .nil) => ⟨_, _, rfl, r, q⟩
theorem Vals.eraseIdx : ∀ {xs : List V} {us : List Value} (i : Nat), Vals xs us -> Vals (xs.eraseIdx i) (us.eraseIdx i)
 | _, _, _, .nil => .nil
 | _, _, 0, .cons _ t => t
 | _, _, i + 1, .cons r t => .cons r (Vals.eraseIdx i t)
theorem Vals.rep {xs : List V} {us : List Value} (h : Vals xs us) : ∀ k : Nat, Vals (y0h k xs).flatten (y0h k us).flatten
 | 0 => .nil
 | k + 1 => by
  rw [y1y, y1y, y2h, y2h]
  exact Vals.append h (Vals.rep h k)
theorem zf5 {α : Type} : ∀ (l : List α) (i : Nat), (l.eraseIdx i).length <= l.length
 | [], _ => y0p _
 | _ :: _, 0 => Nat.le_succ _
 | _ :: r, i + 1 => Nat.succ_le_succ (zf5 r i)
theorem z8m (its : List Value) : ∀ (k : Nat) (acc : List Value),
  List.foldl (fun x1 x2 => x1 ++ x2) acc.toArray (y0h k its.toArray) = (acc ++ (y0h k its).flatten).toArray
 | 0, acc => by simp
 | k + 1, acc => by
  have e : acc.toArray ++ its.toArray = (acc ++ its).toArray := by simp
  have e2 : (acc ++ its) ++ (y0h k its).flatten = acc ++ (y0h (k + 1) its).flatten := by
   rw [y1y, y2h, List.append_assoc]
  rw [<- e2, <- z8m its k (acc ++ its), <- e, y1y, List.foldl_cons]
section
variable {X : Cx} {pins : List (Addr × Obj)} {σ : St} {H : Hp} {s : y04} {l b : Addr} {xs ys zs : List V}
theorem Inv.lset {its its' : List Value} {n : Nat} {f : Array Value -> Array Value} {t' : Nat} (I : Inv X pins σ H s) (hH : H l = some (.lst xs))
  (e : s.heap.get? l = some { cls := .type "list", data := .seq its.toArray n }) (hf : f its.toArray = its'.toArray) (hv : Vals ys its') (hz : ys.length <= y0k) :
  Inv X pins σ (upd H l (.lst ys)) { s with heap := s.heap.update l (Obj.mapSeq f), toks := t' } := by
 have q := PySem.IsL.update e f
 rw [hf] at q
 refine I.write (x := l) (e := l) (by rw [hH]; exact trivial) (.inl rfl) (fun b' u hb hu => (Heap.get?_update_other s.heap (Obj.mapSeq f) (Ne.symm hb)).trans hu) ⟨_, q⟩ ?_
 exact ⟨hz, its', _, hv, q⟩
theorem Inv.lnew {its : List Value} {t' : Nat} (I : Inv X pins σ H s) (hv : Vals ys its) (hz : ys.length <= y0k) :
  Inv X pins σ (upd H s.heap.objs.size (.lst ys)) { s with heap := s.heap.push { cls := .type "list", data := .seq its.toArray }, toks := t' } :=
 I.laid (fun _ _ q => y03 _ q) (y0p _) ⟨hz, its, 0, hv, y0m _ rfl⟩
theorem Inv.fresh (I : Inv X pins σ H s) : H s.heap.objs.size = none := I.hok.fresh (y0p _)
theorem Inv.lstM (I : Inv X pins σ H s) (hH : H l = some (.lst xs)) : xs.length <= y0k /\ ∃ (its : List Value) (n : Nat), Vals xs its /\ xs.length = its.length /\ s.heap.get? l = some { cls := .type "list", data := .seq its.toArray n } := by
 obtain ⟨z, its, n, r, e⟩ := I.hok l _ hH
 exact ⟨z, its, n, r, r.length, e⟩
theorem zn1 {n : Nat} (h : n <= y0k) : Builtin.List.listTooLong n = false := by
 unfold Builtin.List.listTooLong
 exact decide_eq_false (by omega)
end
section
variable {X : Cx}
def zp0 : V -> List V -> Hp -> VK -> Prop := fun x vs H Q => ∃ l xs y, x = .ref l /\ vs = [y] /\ H l = some (.lst xs) /\ xs.length < y0k /\ Q .non (upd H l (.lst (xs ++ [y])))
theorem zax : MtM X "list.append" zp0 := by
 intro pins s σ H x vs v us Q I rx rv h
 obtain ⟨l, xs, y, rfl, rfl, hH, hz, q⟩ := h
 cases rx
 obtain ⟨u, rfl, ru⟩ := rv.one
 obtain ⟨z, its, n, r, hl, e⟩ := I.lstM hH
 refine call_meets F.slot_list_append ⟨_, e, rfl⟩ F.entry_list_append (F.args_list_append_2 _ _) (PySem.list_append l its.toArray n u (by rw [y0i]; omega)) ⟨e, ?_⟩
 refine ⟨.non, _, I.lset (its' := its ++ [u]) hH e (by simp) (r.append (.cons ru .nil)) ?_, rfl, q⟩
 rw [y2a, List.length_singleton]
 omega
theorem zgx {α : Type} (xs : List α) (k : Nat) : (y0h k xs).flatten.length = k * xs.length := by
 induction k with
 | zero => simp
 | succ k ih => rw [y1y, y2h, y2a, ih, Nat.succ_mul, Nat.add_comm]
end
section
variable {prog : y0r} {w : World} {A : Around} {E : Value -> y04 -> Prop} {s : y04}
end
section
variable {X : Cx}
end
end L2
namespace Att
open PySem PySem.W PySem.Calls PyProof.Rows
theorem zb9 {P : Params} {h : Heap} : ∀ (ns : List Int) (vs : List Value), WellAll P h vs (ns.map WData.int) -> IntsAre vs ns := by
 intro ns
 induction ns with
 | nil =>
  intro vs w
  rw [y1c] at w
  cases w
  exact .nil
 | cons n ns ih =>
  intro vs w
  rw [y0e] at w
  cases w with
  | cons a b =>
   cases a
   exact .cons _ _ (ih _ b)
theorem zk1 {l : OpenLaw} {n : Nat} (hn : l.most = some n) {P : Params} {h : Heap} {args : List WData} {vals : List Value}
    (hpre : l.row.toRowW.claim.pre args = true) (hwl : WellAll P h vals args) :
    ∃ a vs ns, vals = [Value.ref a] /\ args = [WData.list (ns.map WData.int)] /\ h.get? a = some { cls := .type "list", data := .seq vs.toArray } /\ IntsAre vs ns /\ ns.length <= n := by
  have hsh : WShape.hasAll [] args [.list .int] = true := (pre_splitW hpre).1
  have hc : l.pre.holds [] { args := args } = true := (pre_splitW hpre).2
  obtain ⟨d, r, rfl, h1, h2⟩ := hasAllW_cons hsh
  obtain rfl := hasAllW_nil h2
  obtain ⟨xs, rfl, h3⟩ := hasW_list h1
  obtain ⟨ns, rfl⟩ := items_int h3
  have hlen : ns.length <= n := by
    unfold OpenLaw.pre at hc
    have h4 : (WTm.not (.lt (.lit (.int (n : Int))) (.len (.arg 0)))).holds [] { args := [.list (ns.map .int)] } = true := by
      have h4 := (holds_andW hc).1
      rw [hn] at h4
      exact h4
    have h5 := condW_of h4 (w_not (w_lt w_lit (w_len_list (w_arg rfl))))
    rw [y16] at h5
    refine Nat.le_of_not_lt fun q => ?_
    have q' : (n : Int) < ((ns.length : Nat) : Int) := by omega
    first
      | (rw [decide_eq_true q'] at h5; exact absurd h5 (by decide))
      | (simp at h5; omega)
  cases hwl with
  | cons w1 w2 =>
    cases w2
    cases w1 with
    | list ho hall => exact ⟨_, _, ns, rfl, rfl, ho, zb9 ns _ hall, hlen⟩
theorem zkm (l : OpenLaw) (args : List WData) : l.row.toRowW.claim.post args (.bool true) args = true :=
 postW_of (r := l.row.toRowW) (X := (true == true))
  (show WShape.has [] (.bool true) .bool = true by first | rfl | decide | simp [WShape.has, WShape.arms, WShape.armsAll])
  (show (WTm.eq .res (.lit (.bool true))).value [] { args := args, res := some (.bool true), after := args } = some (.bool (true == true)) from w_eq_bool (w_res rfl) w_lit) rfl
theorem attach_call {l : OpenLaw} {n : Nat} {q : y0r} {loose : List Str} {XP : (Str -> Option Value) -> Heap -> Prop} {YP : World -> Heap -> Prop} {d : DefRec}
  (hn : l.most = some n) (hdf : d.params.defaults = [])
  (call : ∀ (w : World) (s₀ s₁ : y04) (mg mb : Str -> Option Value) (fa : Addr) (o : Obj) (pm cd doc : Value) (a : Addr) (vs : List Value) (ns : List Int),
   Ground q loose [] XP w s₀ mg mb s₁.heap -> YP w s₁.heap ->
   s₁.heap.get? fa = some o -> o.data = .func (docDef d.name d.params d.body d.scope pm cd doc) -> s₁.heap.CodeRec cd d.name -> mg d.name = some (.ref fa) ->
   s₁.heap.get? a = some { cls := .type "list", data := .seq vs.toArray } -> IntsAre vs ns -> ns.length <= n -> s₁.gens = #[] ->
   codeAny (model l.prog w) callerA (.call (.ref fa) ⟨[.ref a], []⟩) (fun r s' => r = .ok (.ret (.bool true)) /\ OldK s₁.heap s'.heap /\ s'.os = s₁.os /\ AllBare s'.gens) s₁) :
  WalkO q loose XP YP l.row.toRowW d [] (fun f vs => PySem.call f vs) := by
 intro w s₀ s₁ mg mb G Y fa o pm cd doc dV kV ho hd hcd hD hmg hg args vals as hpre hlay hrd hwl hlo
 obtain rfl : dV = .none := Dflts.none hD hdf
 obtain rfl : kV = .none := Dflts.noKw hD
 obtain ⟨a, vs, ns, rfl, rfl, hobj, hints, hlen⟩ := zk1 hn hpre hwl
 refine enter_call (codeAny_mono (call w s₀ s₁ mg mb fa o pm cd doc a vs ns G Y ho (fd_plain hd) hcd hmg hobj hints hlen hg) fun r s' hq => ?_)
 obtain ⟨rfl, h2, h3, h4⟩ := hq
 exact ⟨.inl ⟨.bool true, .bool true, [], rfl, fun _ => rfl, .bool true, zkm l _, fun _ => ⟨List.Pairwise.nil, fun _ hm => (nomatch hm)⟩⟩, h2, h3, h4⟩
section
variable {prog : y0r} {w : World} {A : Around} {E : Value -> y04 -> Prop} {s : y04} {K : Frag}
end
end Att
namespace L2
open PySem PySem.Spec PyProof.Rows
theorem ze4 : ∀ {vs : List Value} {ns : List Int}, IntsAre vs ns -> Vals (ns.map V.int) vs
 | _, _, .nil => .nil
 | _, _, .cons n t h => .cons ⟨t, rfl⟩ (ze4 h)
def Only (H : Hp) : Prop := ∀ b, H b = none \/ ∃ o xs, H b = some (.frz o (.lst xs))
theorem zn9 {P : y0r} {w : World} {K : y00} {mg mb : Str -> Option Value} {CX : CXT} {k : Nat} {fa a : Addr} {fd : y0b} {x : Str} {sp : Sp} {s₁ : y04} {vs : List Value} {ns : List Int}
  (KX : K.In s₁.heap) (hns : s₁.heap.Ns y0o mg) (hb : s₁.heap.Ns builtinsNs mb) (hbb : ∀ x : Str, x ≠ "__name__" -> mb x = bootBuiltins x) (hlim : s₁.heap.NoLimit) (hg : s₁.gens = #[])
  (ha : s₁.heap.get? a = some { cls := .type "list", data := .seq vs.toArray }) (hi : IntsAre vs ns) (hl : ns.length <= y0k) (hr : Room k callerA)
  (F : ∀ base : Heap, K.In base -> base.Ns y0o mg -> FnOk P w K mg base CX k fa fd [x] sp) (hbind : ∀ (s : y04) (u : Value), BindsTo s fd ⟨[u], []⟩ [(x, u)])
  (hsp : ∀ H : Hp, Only H -> SqL K H a (ns.map V.int) -> sp [.ref a] H (fun v _ => v = .bl true) fun _ _ _ => False)
  (hCX : ∀ H e s', CX [] H s₁ (fun _ _ _ => False) e s' -> False) :
  codeAny (model P w) callerA (.call (.ref fa) ⟨[.ref a], []⟩) (fun r s' => r = .ok (.ret (.bool true)) /\ OldK s₁.heap s'.heap /\ s'.os = s₁.os /\ AllBare s'.gens) s₁ := by
 have rv := ze4 hi
 have lenV := hi.length
 have core : ∀ H : Hp, Only H -> SqL K H a (ns.map V.int) -> HOk P w H s₁.heap -> (∀ b, H b ≠ none -> b = a) -> (H a ≠ none -> K.lookup a = none) ->
   codeAny (model P w) callerA (.call (.ref fa) ⟨[.ref a], []⟩) (fun r s' => r = .ok (.ret (.bool true)) /\ OldK s₁.heap s'.heap /\ s'.os = s₁.os /\ AllBare s'.gens) s₁ := by
  intro H hO hS hok hA hK
  have base_of : ∀ {b : Addr} {o : Obj}, s₁.heap.get? b = some o -> H b = none -> (hidT s₁.heap H).get? b = some o := fun e n => zne e n
  have noA : ∀ {b : Addr} {o : Obj} {es : Array DictEntry} {ep : Nat}, s₁.heap.get? b = some o -> o.data = .dict es ep -> H b = none := fun {b o es ep} e d => by
   cases q : H b with
   | none => rfl
   | some u =>
    have e' : b = a := hA b (by rw [q]; simp)
    subst e'
    rw [ha] at e; cases e
    have d' : Data.seq vs.toArray _ = Data.dict es ep := d
    cases d'
  have nsK : ∀ {b : Addr} {m : Str -> Option Value}, s₁.heap.Ns b m -> (hidT s₁.heap H).Ns b m := fun {b m} ⟨o, es, ep, e, d, r⟩ => ⟨o, es, ep, base_of e (noA e d), d, r⟩
  have hKb : K.In (hidT s₁.heap H) := fun b o e => base_of (KX b o e) (by
   cases q : H b with
   | none => rfl
   | some u =>
    have e' : b = a := hA b (by rw [q]; simp)
    subst e'
    rw [hK (by rw [q]; simp)] at e; cases e)
  have hM : Mod K mg (hidT s₁.heap H) := ⟨hKb, nsK hns, ⟨mb, nsK hb, hbb⟩, let ⟨mc, h1, h2⟩ := hlim; ⟨mc, nsK h1, h2⟩⟩
  have e0 : Env0 P w K mg (hidT s₁.heap H) callerA [] s₁ H := ⟨rfl, hM, fun b o e => zpr e, Nat.le_of_eq (zlg _ _), trivial, fun b hb => absurd (show b ∈ ([] : List Addr) from hb) (by simp), hok, .of_eq hg⟩
  refine codeAny_mono ((F _ hKb (nsK hns)).run callerA [] s₁ H ⟨[.ref a], []⟩ [.ref a] [.ref a] _ _ hr e0 (hbind s₁ (.ref a)) (.cons rfl .nil) (hsp H hO hS)) fun r s' h => ?_
  cases r with
  | error e => exact (hCX H e s' h).elim
  | ok fl =>
   cases fl with
   | next => exact y24 h
   | brk => exact y24 h
   | cont => exact y24 h
   | ret u =>
    obtain ⟨v, H', os, bare, un, hok', r', q⟩ := h
    have q' : v = .bl true := q
    subst q'
    obtain rfl : u = Value.bool true := r'
    refine ⟨rfl, OldK.of_keep fun b o e => ?_, os, bare⟩
    cases q : H b with
    | none => exact un.keep b o e q (by intro z; exact absurd (show b ∈ ([] : List Addr) from z) (by simp)) (by simp)
    | some u =>
     rcases hO b with z | ⟨ob, xs, z⟩
     ·rw [q] at z; cases z
     ·have z2 := un.frzs b ob _ z
      obtain ⟨e1, _⟩ := hok b _ z
      obtain ⟨e2, _⟩ := hok' b _ z2
      rw [e] at e1; cases e1
      exact e2
 cases hk : K.lookup a with
 | some o =>
  have e := KX a o hk
  rw [ha] at e
  cases e
  refine core (fun _ => none) (fun _ => .inl rfl) (.inr ⟨_, vs.toArray, _, hk, rfl, rfl, rfl, by rw [y0i, lenV]; exact hl, by simpa using rv⟩) (fun b u z => by have z' : (none : Option HO) = some u := z; cases z') (fun b z => absurd rfl z) fun z => absurd rfl z
 | none =>
  refine core (fun b => if b = a then some (.frz { cls := .type "list", data := .seq vs.toArray } (.lst (ns.map V.int))) else none) (fun b => ?_) (.inl (.inr ⟨{ cls := .type "list", data := .seq vs.toArray }, if_pos rfl⟩)) (fun b u z => ?_) (fun b z => ?_) fun _ => hk
  ·by_cases hb : b = a
   ·exact .inr ⟨_, _, if_pos hb⟩
   ·exact .inl (if_neg hb)
  ·by_cases hb : b = a
   ·have z' := (if_pos hb).symm.trans z
    cases z'
    subst hb
    exact ⟨ha, by rw [y16]; exact hl, vs, _, rv, ha⟩
   ·have z' := (if_neg hb).symm.trans z
    cases z'
  ·by_cases hb : b = a
   ·exact hb
   ·exact absurd (if_neg hb) z
end L2
namespace L2
open PySem PySem.Spec PyProof.Rows
theorem walk_of {l : PySem.W.OpenLaw} {n k : Nat} {q : y0r} {loose : List Str} {XP : (Str -> Option Value) -> Heap -> Prop} {YP : World -> Heap -> Prop} {d : DefRec} {K : Params -> y00} {CX : World -> CXT} {sp : World -> Sp} {x : Str}
  (hn : l.most = some n) (hn2 : n <= y0k) (hdf : d.params.defaults = []) (hr : Room k callerA)
  (hY : ∀ (w : World) (h : Heap), YP w h -> (K w.params).In h)
  (F : ∀ (w : World) (mg : Str -> Option Value) (fa : Addr) (h : Heap), (K w.params).In h -> h.Ns y0o mg -> mg d.name = some (.ref fa) ->
   ∃ fd : y0b, (∀ (s : y04) (u : Value), BindsTo s fd ⟨[u], []⟩ [(x, u)]) /\
    ∀ base : Heap, (K w.params).In base -> base.Ns y0o mg -> FnOk l.prog w (K w.params) mg base (CX w) k fa fd [x] (sp w))
  (hsp : ∀ (w : World) (H : Hp) (a : Addr) (ns : List Int), ns.length <= n -> Only H -> SqL (K w.params) H a (ns.map V.int) -> sp w [.ref a] H (fun v _ => v = .bl true) fun _ _ _ => False)
  (hCX : ∀ (w : World) (H : Hp) (s : y04) (e : Value) (s' : y04), CX w [] H s (fun _ _ _ => False) e s' -> False) :
  PySem.W.WalkO q loose XP YP l.row.toRowW d [] (fun f vs => PySem.call f vs) := by
 refine Att.attach_call hn hdf fun w s₀ s₁ mg mb fa o pm cd doc a vs ns G Y ho hd hcd hmg hobj hints hlen hg => ?_
 have KX := hY w _ Y
 obtain ⟨fd, hb, hF⟩ := F w mg fa _ KX G.T.g hmg
 exact zn9 KX G.T.g G.T.b G.T.builtins G.T.nolimit hg hobj hints (y1u hlen hn2) hr hF hb (fun H hO hS => hsp w H a ns hlen hO hS) fun H e s' => hCX w H s₁ e s'
end L2
namespace L2
open PySem PySem.Spec PyProof.Rows
def z1o (s : Stmt) (j : Nat) : Stmt := match s with
 | .ClassDef _ _ _ body _ _ _ _ _ _ _ => body.getD j (.Pass ⟨0, 0, 0, 0⟩)
 | _ => .Pass ⟨0, 0, 0, 0⟩
def z0f (s : Stmt) : Arguments := match s with
 | .FunctionDef _ a _ _ _ _ _ _ _ _ => a
 | _ => { posonlyargs := [], args := [], vararg := none, kwonlyargs := [], kw_defaults := [], kwarg := none, defaults := [] }
def z0a (s : Stmt) : List Stmt := match s with
 | .FunctionDef _ _ b _ _ _ _ _ _ _ => b
 | _ => []
def z01 (s : Stmt) : Scope := match s with
 | .FunctionDef _ _ _ _ _ _ sc _ _ _ => sc
 | _ => { kind := .function, names := [], isGenerator := false, isCoroutine := false }
abbrev CX0 : CXT := fun _ _ _ _ _ _ => False
abbrev E0 : XK := fun _ _ _ => False
theorem zgi {X : Cx} : zbt CX0 X E0 := fun _ _ _ _ _ _ _ h => h.elim
structure Fun (K : y00) (x qual : Str) (st : Stmt) (f : Addr) (fd : y0b) : Prop where
 ex : ∃ (oc : Value) (od : Option Addr) (kV doc pm : Value) (an : Option Addr) (cdv ct : Value) (osl : Array (Option Value)),
  fd = y0j x qual (z0f st) (z0a st) (z01 st) .none kV doc pm an cdv ct /\ K.lookup f = some ⟨oc, od, .func fd, osl⟩ /\ y0g K cdv qual = true
 kp : y08 K (.ref f) = true
section
variable {P : y0r} {w : World} {K : y00} {mg : Str -> Option Value} {base : Heap}
theorem Fun.ok {x qual : Str} {st : Stmt} {f : Addr} {fd : y0b} {N ps : List Str} {k : Nat} {sp : Sp} (F : Fun K x qual st f fd) (S : FnScope N ps (z01 st)) (len : ∀ vs H Q E, sp vs H Q E -> vs.length = ps.length)
  (hbody : ∀ (cdv : Value) (A : Around) (outer : List Env) (s : y04) (H : Hp) (vs : List V) (Q : VK) (E : XK), Room k (A.deeper (envOfC qual (z01 st) s.heap.objs.size f cdv)) -> sp vs H Q E ->
   ∃ t, PSs (cxOf CX0 P w K mg base N qual (z01 st) f cdv A outer s H E).nox (z0a st) t /\ t { nx := fun _ H' => Q .non H', rt := Q } (start N vs) H) : FnOk P w K mg base CX0 (k + 1) f fd ps sp := by
 obtain ⟨oc, od, kV, doc, pm, an, cdv, ct, osl, rfl, lk, hcd⟩ := F.ex
 refine zt9 lk hcd S len fun A outer s H vs Q E hr hsp => ?_
 obtain ⟨t, h, q⟩ := hbody cdv A outer s H vs Q E hr hsp
 exact ⟨t, h.nox, q⟩
theorem Fun.binds {x qual : Str} {st : Stmt} {f : Addr} {fd : y0b} {ps : List Str} (F : Fun K x qual st f fd)
  (h : ∀ (kV doc pm : Value) (an : Option Addr) (cdv ct : Value) (us : List Value), us.length = ps.length -> bindArgs (y0j x qual (z0f st) (z0a st) (z01 st) .none kV doc pm an cdv ct) ⟨us, []⟩ = pure (ps.zip us)) : z15 K fd ps [] := by
 obtain ⟨oc, od, kV, doc, pm, an, cdv, ct, osl, rfl, lk, hcd⟩ := F.ex
 exact .all (h kV doc pm an cdv ct)
theorem z16 {x qual : Str} {st : Stmt} {f : Addr} {oc : Value} {od an : Option Addr} {osl : Array (Option Value)} {kV doc pm cdv ct : Value} (l : K.lookup f = some ⟨oc, od, .func (y0j x qual (z0f st) (z0a st) (z01 st) .none kV doc pm an cdv ct), osl⟩)
  (c : y0g K cdv qual = true) (k : y08 K (.ref f) = true) : Fun K x qual st f (y0j x qual (z0f st) (z0a st) (z01 st) .none kV doc pm an cdv ct) := ⟨⟨oc, od, kV, doc, pm, an, cdv, ct, osl, rfl, l, c⟩, k⟩
end
theorem zlf {A : Around} {k : Nat} (hr : Room k A) : A.units + 1 < cLine := Nat.lt_of_le_of_lt (Nat.add_le_add_left (by decide : 1 <= 64) _) hr.units
section
variable {X : Cx}
theorem pv (i : Nat) {x : Str} {pos : Pos} (hN : X.N[i]? = some x := by rfl) (hv : Vis X.env.scope x := by first | exact Or.inl rfl | exact Or.inr (Or.inl rfl) | exact Or.inr (Or.inr rfl)) (hd : (x == ("__debug__" : Str)) = false := by decide)
  (hcd : (x == ("__classdict__" : Str)) = false := by decide) : PE X (.Name x pos) (tVar i) := zrb hN hv hd hcd
end
theorem iteF {A B : Prop} (h : B) : if false = true then A else B := by
 rw [if_neg y2b]
 exact h
theorem iteT {A B : Prop} (h : A) : if true = true then A else B := by
 rw [if_pos rfl]
 exact h
def Same (H H' : Hp) : Prop := ∀ b o, H b = some o -> H' b = some o
end L2
end
section
namespace D
open PySem
abbrev T := PyData
def okT (a : T) : Bool := a.canLay0 && decide (a.depth <= 60)
def okL (as : List T) : Bool := y1j as && decide (y1h as <= 60)
abbrev Key := Sum Int Str
inductive Md where
 | ro | own | lent
 deriving DecidableEq
inductive Sl where
 | imm (t : T) | own (ts : List T) | dic (kvs : List (Key × T)) | obj (m : Md) (c : Nat) (fs : List Sl)
abbrev Ev := List (Option Sl)
inductive Out where
 | nx (ε : Ev) | rt (t : T) | bk (ε : Ev) | ct (ε : Ev) | rtm (t : T) (ε : Ev) | rto (s : Sl)
abbrev Fe := Ev -> Option T
abbrev Ft := Ev -> Option Bool
abbrev Fs := Ev -> Option Out
abbrev Fi := Ev -> Option (List T)
abbrev Fg := T -> Ev -> Option Ev
def big : Nat := 16777216
def oAdd : T -> T -> Option T
 | .int i, .int j => some (.int (i + j))
 | .str x, .str y => if x.length + y.length <= big then some (.str (x ++ y)) else none
 | .tuple xs, .tuple ys => if xs.length + ys.length <= big then some (.tuple (xs ++ ys)) else none
 | .list xs, .list ys => if xs.length + ys.length <= big then some (.list (xs ++ ys)) else none
 | _, _ => none
def oSub : T -> T -> Option T
 | .int i, .int j => some (.int (i - j))
 | _, _ => none
def zn4 (i j : Int) : Bool := (decide (-(2 ^ 64) < i) && decide (i < 2 ^ 64)) || (decide (-(2 ^ 64) < j) && decide (j < 2 ^ 64))
def oMul : T -> T -> Option T
 | .int i, .int j => if zn4 i j then some (.int (i * j)) else none
 | _, _ => none
def oDiv : T -> T -> Option T
 | .int i, .int j => if 0 < j /\ j < 1073741824 then some (.int (i / j)) else none
 | _, _ => none
def oMod : T -> T -> Option T
 | .int i, .int j => if 0 < j then some (.int (i % j)) else none
 | _, _ => none
def oNeg : T -> Option T
 | .int i => some (.int (-i))
 | _ => none
def ixOf (n : Nat) (i : Int) : Option Nat := if 0 <= i then (if i < n then some i.toNat else none) else if -(n : Int) <= i then some (i + n).toNat else none
def atZ {α : Type} (xs : List α) (i : Int) : Option α := (ixOf xs.length i).bind fun j => xs[j]?
def oIx : T -> T -> Option T
 | .tuple xs, .int i => atZ xs i
 | .list xs, .int i => atZ xs i
 | .str x, .int i => if x.length <= big then (atZ x.cps.toList i).map fun c => .str ⟨#[c]⟩ else none
 | _, _ => none
def oEq (a b : T) : Option T := if okT a && okT b then some (.bool (y28 a b)) else none
def oNe (a b : T) : Option T := if okT a && okT b then some (.bool (!PyData.eqv a b)) else none
def oIsN (a : T) : Option T := some (.bool (match a with | .none => true | _ => false))
def z7u (a : T) : Option T := some (.bool (match a with | .none => false | _ => true))
def z4i (x y : Str) : Bool := decide (x.cps.toList < y.cps.toList)
def oLt : T -> T -> Option T
 | .int i, .int j => some (.bool (decide (i < j)))
 | .str x, .str y => some (.bool (z4i x y))
 | _, _ => none
def oLe : T -> T -> Option T
 | .int i, .int j => some (.bool (decide (i <= j)))
 | .str x, .str y => some (.bool (!z4i y x))
 | _, _ => none
def oGt : T -> T -> Option T
 | .int i, .int j => some (.bool (decide (j < i)))
 | .str x, .str y => some (.bool (z4i y x))
 | _, _ => none
def oGe : T -> T -> Option T
 | .int i, .int j => some (.bool (decide (j <= i)))
 | .str x, .str y => some (.bool (!z4i x y))
 | _, _ => none
def hasT (x : T) (ts : List T) : Bool := ts.any fun y => y28 y x
def oIn (neg : Bool) : T -> T -> Option T
 | x, .tuple ys => if okT x && okL ys then some (.bool (if neg then !hasT x ys else hasT x ys)) else none
 | x, .list ys => if okT x && okL ys then some (.bool (if neg then !hasT x ys else hasT x ys)) else none
 | _, _ => none
def oLen : List T -> Option T
 | [.tuple xs] => some (.int xs.length)
 | [.list xs] => some (.int xs.length)
 | [.str x] => if x.length <= big then some (.int x.length) else none
 | _ => none
def oMin : List T -> Option T
 | [.int i, .int j] => some (.int (if j < i then j else i))
 | _ => none
def oMax : List T -> Option T
 | [.int i, .int j] => some (.int (if j > i then j else i))
 | _ => none
def z3n : List T -> Option T
 | [.tuple xs] => some (.tuple xs)
 | [.list xs] => some (.tuple xs)
 | _ => none
def ziq : List T -> Option T
 | [.tuple xs] => some (.list xs)
 | [.list xs] => some (.list xs)
 | _ => none
def oInt : List T -> Option T
 | [.int i] => some (.int i)
 | [.bool b] => some (.int (if b then 1 else 0))
 | _ => none
def sIx (n d : Nat) : Option Int -> Nat
 | none => d
 | some v => (if v < 0 then max (v + n) 0 else min v n).toNat
def cutZ {α : Type} (xs : List α) (lo hi : Option Int) : List α := (xs.drop (sIx xs.length 0 lo)).take (sIx xs.length xs.length hi - sIx xs.length 0 lo)
def oSl (t : T) (lo hi : Option Int) : Option T := match t with
 | .tuple xs => some (.tuple (cutZ xs lo hi))
 | .list xs => some (.list (cutZ xs lo hi))
 | _ => none
def zba : List T -> Option (List Int)
 | [] => some []
 | .int i :: ts => (zba ts).map fun r => i :: r
 | _ :: _ => none
def zak : List T -> Option (List Str)
 | [] => some []
 | .str x :: ts => (zak ts).map fun r => x :: r
 | _ :: _ => none
def insI (x : Int) : List Int -> List Int
 | [] => [x]
 | y :: ys => if x <= y then x :: y :: ys else y :: insI x ys
def zea : List Int -> List Int
 | [] => []
 | x :: xs => insI x (zea xs)
def insS (x : Str) : List Str -> List Str
 | [] => [x]
 | y :: ys => if !z4i y x then x :: y :: ys else y :: insS x ys
def z75 : List Str -> List Str
 | [] => []
 | x :: xs => insS x (z75 xs)
def z5a : T -> Option Key
 | .int i => some (.inl i)
 | .str x => some (.inr x)
 | _ => none
def putD (kvs : List (Key × T)) (k : Key) (v : T) : List (Key × T) := if kvs.any (fun p => decide (p.1 = k)) then kvs.map fun p => if p.1 = k then (k, v) else p else kvs ++ [(k, v)]
def getD (kvs : List (Key × T)) (k : Key) : Option T := (kvs.find? fun p => decide (p.1 = k)).map (·.2)
def cst (t : T) : Fe := fun _ => some t
def nm (i : Nat) : Fe := fun ε => match ε[i]? with
 | some (some (.imm t)) => some t
 | some (some (.own ts)) => some (.list ts)
 | _ => none
def nmV (i : Nat) : Fe := fun ε => match ε[i]? with
 | some (some (.imm t)) => some t
 | _ => none
def op1 (o : T -> Option T) (f : Fe) : Fe := fun ε => (f ε).bind o
def op2 (o : T -> T -> Option T) (f g : Fe) : Fe := fun ε => (f ε).bind fun x => (g ε).bind fun y => o x y
def args : List Fe -> Ev -> Option (List T)
 | [], _ => some []
 | f :: fs, ε => (f ε).bind fun t => (args fs ε).map fun ts => t :: ts
def opN (o : List T -> Option T) (fs : List Fe) : Fe := fun ε => (args fs ε).bind o
def z0g (fs : List Fe) : Fe := fun ε => (args fs ε).bind fun ts => if ts.length <= big then some (.tuple ts) else none
def z3x (fs : List Fe) : Fe := fun ε => (args fs ε).bind fun ts => if ts.length <= big then some (.list ts) else none
def opt (f : Fe) : Ev -> Option (Option Int) := fun ε => (f ε).bind fun t => match t with | .int i => some (some i) | _ => none
def optN : Ev -> Option (Option Int) := fun _ => some none
def slice (f : Fe) (lo hi : Ev -> Option (Option Int)) : Fe := fun ε => (f ε).bind fun t => (lo ε).bind fun l => (hi ε).bind fun h => oSl t l h
def andV (f g : Fe) : Fe := fun ε => (f ε).bind fun t => match t with | .bool true => g ε | .bool false => some (.bool false) | _ => none
def orV (f g : Fe) : Fe := fun ε => (f ε).bind fun t => match t with | .bool false => g ε | .bool true => some (.bool true) | _ => none
def tstB (f : Fe) : Ft := fun ε => (f ε).bind fun t => match t with | .bool b => some b | _ => none
def tstL (f : Fe) : Ft := fun ε => (f ε).bind fun t => match t with | .list ts => some (!ts.isEmpty) | .tuple ts => some (!ts.isEmpty) | _ => none
def andT (f g : Ft) : Ft := fun ε => (f ε).bind fun b => if b then g ε else some false
def orT (f g : Ft) : Ft := fun ε => (f ε).bind fun b => if b then some true else g ε
def notT (f : Ft) : Ft := fun ε => (f ε).map fun b => !b
def ifE (c : Ft) (f g : Fe) : Fe := fun ε => (c ε).bind fun b => if b then f ε else g ε
def cstT (b : Bool) : Ft := fun _ => some b
def ofT (c : Ft) : Fe := fun ε => (c ε).map .bool
def z2m (f : Fe) : Fi := fun ε => (f ε).bind fun t => match t with | .tuple ts => some ts | .list ts => some ts | _ => none
def z9z (f : Fe) : Fi := fun ε => (f ε).bind fun t => match t with | .tuple ts => some ts | _ => none
def rng (lo hi : Int) : List T := (List.range (hi - lo).toNat).map fun (k : Nat) => .int (lo + (k : Int))
def z7q (i : Int) : Bool := decide (-(2 ^ 62) <= i) && decide (i < 2 ^ 62)
def z4z (f : Fe) : Fi := fun ε => (f ε).bind fun t => match t with | .int j => if z7q j then some (rng 0 j) else none | _ => none
def enum (ts : List T) : List T := ts.zipIdx.map fun p => .tuple [.int p.2, p.1]
def z6c (f : Fi) : Fi := fun ε => (f ε).map enum
def gNm (i : Nat) : Fg := fun t ε => some (ε.set i (some (.imm t)))
def gAll : List Fg -> List T -> Ev -> Option Ev
 | [], [], ε => some ε
 | g :: gs, t :: ts, ε => (g t ε).bind fun ε' => gAll gs ts ε'
 | _, _, _ => none
def gTu (gs : List Fg) : Fg := fun t ε => match t with | .tuple ts => gAll gs ts ε | _ => none
def z48 (g : Fg) (c : Ft) (e : Fe) : List T -> Ev -> Option (List T)
 | [], _ => some []
 | t :: ts, ε => (g t ε).bind fun ε1 => (c ε1).bind fun b => if b then (e ε1).bind fun y => (z48 g c e ts ε1).map fun ys => y :: ys else z48 g c e ts ε1
def z34 (own : Nat) (caps : List Nat) (ε : Ev) : Ev := y0h own none ++ caps.map fun i => (ε[i]?).join
def comp (own : Nat) (caps : List Nat) (it : Fi) (g : Fg) (c : Ft) (e : Fe) : Fe := fun ε => (it ε).bind fun ts => if ts.length <= big then (z48 g c e ts (z34 own caps ε)).map .list else none
def skip : Fs := fun ε => some (.nx ε)
def seq (a b : Fs) : Fs := fun ε => (a ε).bind fun o => match o with | .nx ε' => b ε' | o => some o
def asg (i : Nat) (f : Fe) : Fs := fun ε => (f ε).map fun t => .nx (ε.set i (some (.imm t)))
def asgN (i : Nat) (f : Fe) : Fs := fun ε => (f ε).bind fun t => match t with | .list ts => some (.nx (ε.set i (some (.own ts)))) | _ => none
def asgT (g : Fg) (f : Fe) : Fs := fun ε => (f ε).bind fun t => (g t ε).map .nx
def rtn (f : Fe) : Fs := fun ε => (f ε).map .rt
def iff (c : Ft) (a b : Fs) : Fs := fun ε => (c ε).bind fun x => if x then a ε else b ε
def brk : Fs := fun ε => some (.bk ε)
def forL (g : Fg) (b : Fs) : List T -> Ev -> Option Out
 | [], ε => some (.nx ε)
 | t :: ts, ε => (g t ε).bind fun ε1 => (b ε1).bind fun o => match o with
  | .nx ε2 => forL g b ts ε2
  | .ct ε2 => forL g b ts ε2
  | .bk ε2 => some (.nx ε2)
  | .rt t => some (.rt t)
  | .rtm t ε2 => some (.rtm t ε2)
  | .rto s => some (.rto s)
def for_ (it : Fi) (g : Fg) (b : Fs) : Fs := fun ε => (it ε).bind fun ts => forL g b ts ε
def app (i : Nat) (f : Fe) : Fs := fun ε => match ε[i]? with
 | some (some (.own ts)) => (f ε).bind fun t => if ts.length < big then some (.nx (ε.set i (some (.own (ts ++ [t]))))) else none
 | _ => none
def ext (i : Nat) (f : Fe) : Fs := fun ε => match ε[i]? with
 | some (some (.own ts)) => (f ε).bind fun t => match t with
  | .list us => if ts.length + us.length <= big then some (.nx (ε.set i (some (.own (ts ++ us))))) else none
  | _ => none
 | _ => none
def par (i j : Nat) (own : Bool) (f g : Fe) : Fs := fun ε => (f ε).bind fun t => (g ε).bind fun u => if own then (match u with | .list us => some (.nx ((ε.set i (some (.imm t))).set j (some (.own us)))) | _ => none) else some (.nx ((ε.set i (some (.imm t))).set j (some (.imm u))))
def runF (b : Fs) (n : Nat) (as : List T) : Option T := (b ((as.map fun t => some (.imm t)) ++ y0h (n - as.length) none)).bind fun o => match o with
 | .rt t => some t
 | .nx _ => some .none
 | _ => none
end D
end
section
namespace D
open PySem PySem.Spec PyProof.Rows L2
mutual
def Rep (K : y00) (F : Addr -> Prop) (H : Hp) : T -> V -> Prop
 | .none, v => v = .non
 | .bool b, v => v = .bl b
 | .int i, v => v = .int i
 | .str x, v => v = .str x
 | .dict _, _ => False
 | .tuple ts, v => ∃ a vs, v = .ref a /\ SqT K H a vs /\ RepL K F H ts vs
 | .list ts, v => ∃ a vs, v = .ref a /\ F a /\ Rd H a (.lst vs) /\ RepL K F H ts vs
def RepL (K : y00) (F : Addr -> Prop) (H : Hp) : List T -> List V -> Prop
 | [], vs => vs = []
 | t :: ts, vs => ∃ v r, vs = v :: r /\ Rep K F H t v /\ RepL K F H ts r
end
section
variable {K : y00} {F F' : Addr -> Prop} {H H' : Hp}
mutual
theorem Rep.keep (h1 : ∀ b xs, SqT K H b xs -> SqT K H' b xs) (h2 : ∀ b xs, F b -> Rd H b (.lst xs) -> F' b /\ Rd H' b (.lst xs)) : ∀ {t : T} {v : V}, Rep K F H t v -> Rep K F' H' t v
 | .none, v, h => by simpa [Rep] using h
 | .bool _, v, h => by simpa [Rep] using h
 | .dict _, v, h => by simp [Rep] at h
 | .int _, v, h => by simpa [Rep] using h
 | .str _, v, h => by simpa [Rep] using h
 | .tuple ts, v, h => by
  simp only [Rep] at h ⊢
  obtain ⟨a, vs, e, q, r⟩ := h
  exact ⟨a, vs, e, h1 _ _ q, RepL.keep h1 h2 r⟩
 | .list ts, v, h => by
  simp only [Rep] at h ⊢
  obtain ⟨a, vs, e, f, q, r⟩ := h
  exact ⟨a, vs, e, (h2 _ _ f q).1, (h2 _ _ f q).2, RepL.keep h1 h2 r⟩
theorem RepL.keep (h1 : ∀ b xs, SqT K H b xs -> SqT K H' b xs) (h2 : ∀ b xs, F b -> Rd H b (.lst xs) -> F' b /\ Rd H' b (.lst xs)) : ∀ {ts : List T} {vs : List V}, RepL K F H ts vs -> RepL K F' H' ts vs
 | [], vs, h => by simpa [RepL] using h
 | t :: ts, vs, h => by
  simp only [RepL] at h ⊢
  obtain ⟨v, r, e, q, z⟩ := h
  exact ⟨v, r, e, Rep.keep h1 h2 q, RepL.keep h1 h2 z⟩
end
theorem RepL.nil : RepL K F H [] [] := by simp [RepL]
theorem RepL.cons {t : T} {v : V} {ts : List T} {vs : List V} (h : Rep K F H t v) (r : RepL K F H ts vs) : RepL K F H (t :: ts) (v :: vs) := by
 simp only [RepL]
 exact ⟨v, vs, rfl, h, r⟩
theorem RepL.length : ∀ {ts : List T} {vs : List V}, RepL K F H ts vs -> ts.length = vs.length
 | [], vs, h => by
  simp only [RepL] at h
  subst h
  rfl
 | t :: ts, vs, h => by
  simp only [RepL] at h
  obtain ⟨v, r, e, q, z⟩ := h
  subst e
  simp [RepL.length z]
theorem RepL.get : ∀ {ts : List T} {vs : List V} {i : Nat} {t : T}, RepL K F H ts vs -> ts[i]? = some t -> ∃ v, vs[i]? = some v /\ Rep K F H t v
 | [], vs, i, t, h, e => by simp at e
 | x :: ts, vs, 0, t, h, e => by
  simp only [RepL] at h
  obtain ⟨v, r, rfl, q, z⟩ := h
  simp at e
  subst e
  exact ⟨v, rfl, q⟩
 | x :: ts, vs, i + 1, t, h, e => by
  simp only [RepL] at h
  obtain ⟨v, r, rfl, q, z⟩ := h
  obtain ⟨u, h1, h2⟩ := RepL.get (i := i) (t := t) z (by simpa using e)
  exact ⟨u, by simpa using h1, h2⟩
theorem RepL.append : ∀ {ts us : List T} {vs ws : List V}, RepL K F H ts vs -> RepL K F H us ws -> RepL K F H (ts ++ us) (vs ++ ws)
 | [], us, vs, ws, h, r => by
  simp only [RepL] at h
  subst h
  exact r
 | t :: ts, us, vs, ws, h, r => by
  simp only [RepL] at h
  obtain ⟨v, z, rfl, q, y⟩ := h
  exact RepL.cons q (RepL.append y r)
theorem RepL.take : ∀ {ts : List T} {vs : List V} (n : Nat), RepL K F H ts vs -> RepL K F H (ts.take n) (vs.take n)
 | [], vs, n, h => by
  simp only [RepL] at h
  subst h
  simpa using RepL.nil
 | t :: ts, vs, 0, h => by simpa using RepL.nil
 | t :: ts, vs, n + 1, h => by
  simp only [RepL] at h
  obtain ⟨v, z, rfl, q, y⟩ := h
  simpa using RepL.cons q (RepL.take n y)
theorem RepL.drop : ∀ {ts : List T} {vs : List V} (n : Nat), RepL K F H ts vs -> RepL K F H (ts.drop n) (vs.drop n)
 | [], vs, n, h => by
  simp only [RepL] at h
  subst h
  simpa using RepL.nil
 | t :: ts, vs, 0, h => by simpa using h
 | t :: ts, vs, n + 1, h => by
  simp only [RepL] at h
  obtain ⟨v, z, rfl, q, y⟩ := h
  simpa using RepL.drop n y
end
class Tbl where
 tb : List (Addr × Str)
 cn : Nat -> List Str
 ck : Nat -> Option Addr
def TbG (H : Hp) (b : Addr) (q : Str) : Prop := ∃ ps : Array Value, H b = some (.tbl ps) /\ TriplesOk ps.toList /\ ∀ pos cv, codeAmong pos ps.toList = some cv -> ∃ c, cv = .ref c /\ H c = some (.ext fun h => h.CodeRec (.ref c) q)
def TbS [t : Tbl] (H : Hp) : Prop := ∀ p ∈ t.tb, TbG H p.1 p.2
theorem TbG.keep {H H' : Hp} {b : Addr} {q : Str} (h : TbG H b q) (k1 : ∀ a ps, H a = some (.tbl ps) -> H' a = some (.tbl ps)) (k2 : ∀ a φ, H a = some (.ext φ) -> H' a = some (.ext φ)) : TbG H' b q := by
 obtain ⟨ps, h1, h2, h3⟩ := h
 refine ⟨ps, k1 _ _ h1, h2, fun pos cv e => ?_⟩
 obtain ⟨c, e1, e2⟩ := h3 pos cv e
 exact ⟨c, e1, k2 _ _ e2⟩
variable [Tbl]
def HoM (u : HO) : Prop := (∃ xs, u = .lst xs) \/ (∃ xs, u = .dK xs) \/ ∃ C dx fs, u = .ins C dx fs
theorem HoM.cases {P : Prop} {u : HO} (h : HoM u) (h1 : ∀ xs, u = .lst xs -> P) (h2 : ∀ xs, u = .dK xs -> P) (h3 : ∀ C dx fs, u = .ins C dx fs -> P) : P := by
 rcases h with ⟨xs, e⟩ | ⟨xs, e⟩ | ⟨C, dx, fs, e⟩
 ·exact h1 xs e
 ·exact h2 xs e
 ·exact h3 C dx fs e
theorem TbS.updM {H : Hp} (h : TbS H) {p : Addr} {o : HO} (hp : ∀ u, H p = some u -> HoM u) : TbS (upd H p o) := fun b hb =>
 (h b hb).keep (fun a ps e => by
  have nb : a ≠ p := by
   rintro rfl
   exact (hp _ e).cases (fun _ z => by cases z) (fun _ z => by cases z) (fun _ _ _ z => by cases z)
  rw [z0j nb]; exact e) fun a φ e => by
  have nb : a ≠ p := by
   rintro rfl
   exact (hp _ e).cases (fun _ z => by cases z) (fun _ z => by cases z) (fun _ _ _ z => by cases z)
  rw [z0j nb]; exact e
theorem TbS.upd {H : Hp} (h : TbS H) {p : Addr} {o : HO} (hp : ∀ u, H p = some u -> (∃ xs, u = .lst xs) \/ ∃ xs, u = .dK xs) : TbS (upd H p o) := h.updM fun u e => by
 rcases hp u e with z | z
 ·exact .inl z
 ·exact .inr (.inl z)
theorem TbS.new {H : Hp} (h : TbS H) {p : Addr} {o : HO} (hp : H p = none) : TbS (L2.upd H p o) := h.upd fun u e => by rw [hp] at e; cases e
structure Dom (F : Addr -> Prop) (H : Hp) : Prop where
 dm : ∀ a, F a -> ∃ o, H a = some o
 tgs : TbS H
instance {F : Addr -> Prop} {H : Hp} : CoeFun (Dom F H) fun _ => ∀ a, F a -> ∃ o, H a = some o := ⟨Dom.dm⟩
def z7i (H H' : Hp) : Prop := ∀ b o, H b = some o -> H' b = some o \/ ∃ ps ps', o = .tbl ps /\ H' b = some (.tbl ps')
theorem z7i.refl (H : Hp) : z7i H H := fun _ _ h => .inl h
theorem z7i.ne {H H' : Hp} (s : z7i H H') {b : Addr} {o : HO} (e : H b = some o) : ∃ u, H' b = some u := by
 rcases s b o e with h | ⟨_, _, _, h⟩
 ·exact ⟨_, h⟩
 ·exact ⟨_, h⟩
theorem z7i.none {H H' : Hp} (s : z7i H H') {b : Addr} (e : H' b = none) : H b = none := by
 cases z : H b with
 | none => rfl
 | some o =>
  obtain ⟨u, q⟩ := s.ne z
  rw [e] at q
  cases q
theorem z7i.get {H H' : Hp} (s : z7i H H') {b : Addr} {o : HO} (e : H b = some o) (n : ∀ ps, o ≠ .tbl ps := by intro _ z; cases z) : H' b = some o := by
 rcases s b o e with h | ⟨_, _, z, _⟩
 ·exact h
 ·exact absurd z (n _)
theorem z7i.trans {H H1 H2 : Hp} (a : z7i H H1) (b : z7i H1 H2) : z7i H H2 := fun c o h => by
 rcases a c o h with q | ⟨ps, ps1, z, q⟩
 ·exact b c o q
 ·rcases b c _ q with q2 | ⟨_, ps2, z2, q2⟩
  ·exact .inr ⟨ps, ps1, z, q2⟩
  ·exact .inr ⟨ps, ps2, z, q2⟩
structure Ext (F : Addr -> Prop) (H : Hp) (F' : Addr -> Prop) (H' : Hp) : Prop where
 same : z7i H H'
 sub : ∀ a, F a -> F' a
 new : ∀ a, F' a -> F a \/ H a = none
 dom : Dom F' H'
section
variable {K : y00} {F F1 F2 : Addr -> Prop} {H H1 H2 : Hp}
theorem Ext.refl (d : Dom F H) : Ext F H F H := ⟨z7i.refl H, fun _ h => h, fun _ h => .inl h, d⟩
theorem Ext.trans (a : Ext F H F1 H1) (b : Ext F1 H1 F2 H2) : Ext F H F2 H2 :=
 ⟨a.same.trans b.same, fun x h => b.sub x (a.sub x h), fun x h => (b.new x h).elim (fun z => a.new x z) fun z => .inr (a.same.none z), b.dom⟩
theorem Rd.same {a : Addr} {u : HO} (s : z7i H H1) (r : Rd H a u) (n : ∀ ps, u ≠ .tbl ps := by intro _ z; cases z) : Rd H1 a u := by
 rcases r with r | ⟨o, r⟩
 ·exact .inl (s.get r n)
 ·exact .inr ⟨o, s.get r⟩
theorem SqT.same {a : Addr} {xs : List V} (s : z7i H H1) (r : SqT K H a xs) : SqT K H1 a xs := by
 rcases r with r | r
 ·exact .inl (Rd.same s r)
 ·exact .inr r
theorem Rep.ext {t : T} {v : V} (r : Rep K F H t v) (x : Ext F H F1 H1) : Rep K F1 H1 t v := r.keep (fun _ _ q => SqT.same x.same q) fun b _ f q => ⟨x.sub b f, Rd.same x.same q⟩
theorem RepL.ext {t : List T} {v : List V} (r : RepL K F H t v) (x : Ext F H F1 H1) : RepL K F1 H1 t v := r.keep (fun _ _ q => SqT.same x.same q) fun b _ f q => ⟨x.sub b f, Rd.same x.same q⟩
theorem Ext.laid {p : Addr} {o : HO} (d : Dom F H) (hp : H p = none) : Ext F H F (upd H p o) :=
 ⟨fun b u q => .inl (same_new' hp o b u q), fun _ h => h, fun _ h => .inl h, ⟨fun a h => by
  obtain ⟨u, e⟩ := d a h
  exact ⟨u, same_new' hp o a u e⟩, d.tgs.new hp⟩⟩
where same_new' {H : Hp} {p : Addr} (h : H p = none) (o : HO) : Same H (upd H p o) := fun b u q => by rw [z0j (z2c q h)]; exact q
theorem Ext.laidF {p : Addr} {o : HO} (d : Dom F H) (hp : H p = none) : Ext F H (fun a => F a \/ a = p) (upd H p o) :=
 ⟨fun b u q => .inl (Ext.laid.same_new' hp o b u q), fun _ h => .inl h, fun a h => by
  rcases h with h | rfl
  ·exact .inl h
  ·exact .inr hp, ⟨fun a h => by
  rcases h with h | rfl
  ·obtain ⟨u, e⟩ := d a h
   exact ⟨u, Ext.laid.same_new' hp o a u e⟩
  ·exact ⟨o, z0d⟩, d.tgs.new hp⟩⟩
end
structure Kp (K : y00) (F : Addr -> Prop) (H : Hp) (F' : Addr -> Prop) (H' : Hp) : Prop where
 tup : ∀ b xs, SqT K H b xs -> SqT K H' b xs
 lst : ∀ b xs, F b -> Rd H b (.lst xs) -> F' b /\ Rd H' b (.lst xs)
section
variable {K : y00} {F F1 F2 : Addr -> Prop} {H H1 H2 : Hp}
theorem Kp.refl : Kp K F H F H := ⟨fun _ _ h => h, fun _ _ f h => ⟨f, h⟩⟩
theorem Kp.trans (a : Kp K F H F1 H1) (b : Kp K F1 H1 F2 H2) : Kp K F H F2 H2 := ⟨fun x xs h => b.tup x xs (a.tup x xs h), fun x xs f h => b.lst x xs (a.lst x xs f h).1 (a.lst x xs f h).2⟩
theorem Ext.kp (x : Ext F H F1 H1) : Kp K F H F1 H1 := ⟨fun _ _ q => SqT.same x.same q, fun b _ f q => ⟨x.sub b f, Rd.same x.same q⟩⟩
theorem Rep.kp {t : T} {v : V} (r : Rep K F H t v) (x : Kp K F H F1 H1) : Rep K F1 H1 t v := r.keep x.tup x.lst
theorem RepL.kp {t : List T} {v : List V} (r : RepL K F H t v) (x : Kp K F H F1 H1) : RepL K F1 H1 t v := r.keep x.tup x.lst
end
def RepR (K : y00) (O F : Addr -> Prop) (H : Hp) (t : T) (v : V) : Prop :=
 Rep K F H t v \/ ∃ ts a vs, t = .list ts /\ v = .ref a /\ H a = some (.lst vs) /\ RepL K F H ts vs
section
variable {K : y00} {O F F1 : Addr -> Prop} {H H1 : Hp} {v : V}
theorem RepR.ext {t : T} (r : RepR K O F H t v) (x : Ext F H F1 H1) : RepR K O F1 H1 t v := by
 rcases r with r | ⟨ts, a, vs, e1, e2, e4, r⟩
 ·exact .inl (r.ext x)
 ·exact .inr ⟨ts, a, vs, e1, e2, x.same.get e4, r.ext x⟩
theorem RepR.non (r : RepR K O F H .none v) : v = .non := by
 rcases r with r | ⟨ts, a, vs, e1, _⟩
 ·simpa [Rep] using r
 ·cases e1
theorem RepR.bl {b : Bool} (r : RepR K O F H (.bool b) v) : v = .bl b := by
 rcases r with r | ⟨ts, a, vs, e1, _⟩
 ·simpa [Rep] using r
 ·cases e1
theorem RepR.int {i : Int} (r : RepR K O F H (.int i) v) : v = .int i := by
 rcases r with r | ⟨ts, a, vs, e1, _⟩
 ·simpa [Rep] using r
 ·cases e1
theorem RepR.str {x : Str} (r : RepR K O F H (.str x) v) : v = .str x := by
 rcases r with r | ⟨ts, a, vs, e1, _⟩
 ·simpa [Rep] using r
 ·cases e1
theorem RepR.tup {ts : List T} (r : RepR K O F H (.tuple ts) v) : ∃ a vs, v = .ref a /\ SqT K H a vs /\ RepL K F H ts vs := by
 rcases r with r | ⟨ts, a, vs, e1, _⟩
 ·simpa [Rep] using r
 ·cases e1
theorem RepR.lst {ts : List T} (r : RepR K O F H (.list ts) v) : ∃ a vs, v = .ref a /\ Rd H a (.lst vs) /\ RepL K F H ts vs := by
 rcases r with r | ⟨us, a, vs, e1, e2, e4, r⟩
 ·simp only [Rep] at r
  obtain ⟨a, vs, e, _, q, z⟩ := r
  exact ⟨a, vs, e, q, z⟩
 ·cases e1
  exact ⟨a, vs, e2, .inl e4, r⟩
end
def RepD (K : y00) (F : Addr -> Prop) (H : Hp) : List (D.Key × T) -> List (D.Key × V) -> Prop
 | [], vs => vs = []
 | p :: ts, vs => ∃ v r, vs = (p.1, v) :: r /\ Rep K F H p.2 v /\ RepD K F H ts r
theorem RepD.kp {K : y00} {F F' : Addr -> Prop} {H H' : Hp} (x : Kp K F H F' H') : ∀ {ts : List (D.Key × T)} {vs : List (D.Key × V)}, RepD K F H ts vs -> RepD K F' H' ts vs
 | [], vs, h => h
 | p :: ts, vs, h => by
  obtain ⟨v, r, e, q, z⟩ := h
  exact ⟨v, r, e, q.kp x, RepD.kp x z⟩
structure En where
 h : Hp
 la : Addr
def rf : V -> List Addr
 | .ref a => [a]
 | _ => []
def fp0 : Sl -> V -> List Addr
 | .imm _, _ => []
 | _, v => rf v
def fpF : List Sl -> List V -> List Addr
 | s :: ss, v :: vs => fp0 s v ++ fpF ss vs
 | _, _ => []
def zhf (H : Hp) : V -> List V
 | .ref a => (match H a with
  | some (.ins _ _ kvs) => kvs.map (·.2)
  | some (.dK kvs) => kvs.map (·.2)
  | _ => [])
 | _ => []
def fpS (H : Hp) : Sl -> V -> List Addr
 | .imm _, _ => []
 | .own _, v => rf v
 | .dic _, v => rf v
 | .obj _ _ fs, v => rf v ++ fpF fs (zhf H v)
def z5c (H : Hp) (a : Addr) (c : Nat) (vs : List V) : Prop := vs.length <= (Tbl.cn c).length /\ match Tbl.ck c with
 | some C => ∃ dx, H a = some (.ins C dx ((Tbl.cn c).zip vs))
 | none => H a = some (.dK (((Tbl.cn c).zip vs).map fun p => (.inr p.1, p.2)))
def z8y (K : y00) (F : Addr -> Prop) (H : Hp) : Sl -> V -> Prop
 | .imm t, v => Rep K F H t v
 | .own ts, v => ∃ b us, v = .ref b /\ H b = some (.lst us) /\ RepL K F H ts us
 | .dic kvs, v => ∃ b us, v = .ref b /\ H b = some (.dK us) /\ RepD K F H kvs us
 | .obj _ _ _, _ => False
def RelF (K : y00) (F : Addr -> Prop) (H : Hp) : List Sl -> List V -> Prop
 | [], vs => vs = []
 | s :: ss, vs => ∃ v r, vs = v :: r /\ z8y K F H s v /\ RelF K F H ss r
def OwnM (E : En) (O F : Addr -> Prop) (m : Md) (b : Addr) : Prop := ¬ F b /\ match m with
 | .ro => E.h b ≠ none
 | _ => O b
def z22 (K : y00) (E : En) (O F : Addr -> Prop) (H : Hp) : Sl -> V -> Prop
 | .imm t, v => Rep K F H t v
 | .own ts, v => ∃ a vs, v = .ref a /\ ¬ F a /\ O a /\ H a = some (.lst vs) /\ RepL K F H ts vs
 | .dic kvs, v => ∃ a vs, v = .ref a /\ ¬ F a /\ O a /\ H a = some (.dK vs) /\ RepD K F H kvs vs
 | .obj m c fs, v => ∃ a vs, v = .ref a /\ z5c H a c vs /\ RelF K F H fs vs /\ (a :: fpF fs vs).Nodup /\ (∀ b ∈ a :: fpF fs vs, OwnM E O F m b) /\ (m = .lent -> a = E.la)
def Sl.isOwn : Sl -> Bool
 | .imm _ => false
 | .obj .ro _ _ => false
 | _ => true
section
variable {K : y00} {F F' O O' : Addr -> Prop} {H H' : Hp} {E : En}
theorem zg4 {α β : Type} : ∀ {xs : List α} {ys : List β}, ys.length <= xs.length -> (xs.zip ys).map (·.2) = ys
 | xs, [], _ => by simp
 | [], y :: ys, h => by simp at h
 | x :: xs, y :: ys, h => by simp [zg4 (xs := xs) (ys := ys) (by simpa using h)]
theorem z5c.vals {a : Addr} {c : Nat} {vs : List V} (h : z5c H a c vs) : zhf H (.ref a) = vs := by
 obtain ⟨hl, h⟩ := h
 unfold zhf
 split at h
 ·obtain ⟨dx, e⟩ := h
  simp only [e]
  exact zg4 hl
 ·simp only [h, List.map_map]
  exact zg4 hl
theorem z5c.mem {a : Addr} {c : Nat} {vs : List V} (h : z5c H a c vs) : ∃ o, H a = some o /\ HoM o := by
 obtain ⟨hl, h⟩ := h
 split at h
 ·obtain ⟨dx, e⟩ := h
  exact ⟨_, e, .inr (.inr ⟨_, _, _, rfl⟩)⟩
 ·exact ⟨_, h, .inr (.inl ⟨_, rfl⟩)⟩
theorem z5c.keep {a : Addr} {c : Nat} {vs : List V} (h : z5c H a c vs) (e : H' a = H a) : z5c H' a c vs := by
 obtain ⟨hl, h⟩ := h
 refine ⟨hl, ?_⟩
 rw [e]
 exact h
theorem zcf {v : V} {b : Addr} (h : b ∈ rf v) : v = .ref b := by
 unfold rf at h
 split at h
 ·simp at h
  rw [h]
 ·simp at h
theorem z8y.at {s : Sl} {v : V} {b : Addr} (r : z8y K F H s v) (h : b ∈ fp0 s v) : ∃ o, H b = some o /\ HoM o := by
 cases s with
 | imm t => simp [fp0] at h
 | own ts =>
  obtain ⟨b', us, e, eh, _⟩ := r
  have := zcf h
  rw [e] at this
  cases this
  exact ⟨_, eh, .inl ⟨_, rfl⟩⟩
 | dic ts =>
  obtain ⟨b', us, e, eh, _⟩ := r
  have := zcf h
  rw [e] at this
  cases this
  exact ⟨_, eh, .inr (.inl ⟨_, rfl⟩)⟩
 | obj m c fs => exact r.elim
theorem RelF.at : ∀ {fs : List Sl} {vs : List V} {b : Addr}, RelF K F H fs vs -> b ∈ fpF fs vs -> ∃ o, H b = some o /\ HoM o
 | [], vs, b, r, h => by simp [fpF] at h
 | s :: ss, vs, b, r, h => by
  obtain ⟨v, z, rfl, r1, r2⟩ := r
  rw [show fpF (s :: ss) (v :: z) = fp0 s v ++ fpF ss z from rfl] at h
  rcases y13.mp h with h | h
  ·exact r1.at h
  ·exact RelF.at r2 h
theorem z2y {m : Md} {c : Nat} {fs : List Sl} {a : Addr} {vs : List V} (h : z5c H a c vs) : fpS H (.obj m c fs) (.ref a) = a :: fpF fs vs := by
 show rf (.ref a) ++ fpF fs (zhf H (.ref a)) = _
 rw [h.vals]
 rfl
theorem z22.at {s : Sl} {v : V} {b : Addr} (r : z22 K E O F H s v) (h : b ∈ fpS H s v) : ∃ o, H b = some o /\ HoM o := by
 cases s with
 | imm t => simp [fpS] at h
 | own ts =>
  obtain ⟨b', us, e, _, _, eh, _⟩ := r
  have := zcf h
  rw [e] at this
  cases this
  exact ⟨_, eh, .inl ⟨_, rfl⟩⟩
 | dic ts =>
  obtain ⟨b', us, e, _, _, eh, _⟩ := r
  have := zcf h
  rw [e] at this
  cases this
  exact ⟨_, eh, .inr (.inl ⟨_, rfl⟩)⟩
 | obj m c fs =>
  obtain ⟨a, vs, rfl, ha, hf, _⟩ := r
  rw [z2y ha] at h
  rcases y09.mp h with rfl | h
  ·exact ha.mem
  ·exact hf.at h
theorem z22.held {s : Sl} {v : V} {b : Addr} (r : z22 K E O F H s v) (h : b ∈ fpS H s v) : ¬ F b /\ (s.isOwn = true -> O b) /\ (s.isOwn = false -> E.h b ≠ none) := by
 cases s with
 | imm t => simp [fpS] at h
 | own ts =>
  obtain ⟨b', us, e, n, o, eh, _⟩ := r
  have := zcf h
  rw [e] at this
  cases this
  exact ⟨n, fun _ => o, fun z => by cases z⟩
 | dic ts =>
  obtain ⟨b', us, e, n, o, eh, _⟩ := r
  have := zcf h
  rw [e] at this
  cases this
  exact ⟨n, fun _ => o, fun z => by cases z⟩
 | obj m c fs =>
  obtain ⟨a, vs, rfl, ha, hf, nd, ow, _⟩ := r
  rw [z2y ha] at h
  obtain ⟨n, q⟩ := ow b h
  refine ⟨n, fun z => ?_, fun z => ?_⟩
  ·cases m with
   | ro => cases z
   | own => exact q
   | lent => exact q
  ·cases m with
   | ro => exact q
   | own => cases z
   | lent => cases z
theorem z8y.keep {s : Sl} {v : V} (r : z8y K F H s v) (kp : Kp K F H F' H') (hh : ∀ b ∈ fp0 s v, H' b = H b) : z8y K F' H' s v := by
 cases s with
 | imm t => exact Rep.kp r kp
 | own ts =>
  obtain ⟨b, us, rfl, eh, z⟩ := r
  exact ⟨b, us, rfl, by rw [hh b (by simp [fp0, rf])]; exact eh, z.kp kp⟩
 | dic ts =>
  obtain ⟨b, us, rfl, eh, z⟩ := r
  exact ⟨b, us, rfl, by rw [hh b (by simp [fp0, rf])]; exact eh, RepD.kp kp z⟩
 | obj m c fs => exact r.elim
theorem RelF.keep : ∀ {fs : List Sl} {vs : List V}, RelF K F H fs vs -> Kp K F H F' H' -> (∀ b ∈ fpF fs vs, H' b = H b) -> RelF K F' H' fs vs
 | [], vs, r, _, _ => r
 | s :: ss, vs, r, kp, hh => by
  obtain ⟨v, z, rfl, r1, r2⟩ := r
  rw [show fpF (s :: ss) (v :: z) = fp0 s v ++ fpF ss z from rfl] at hh
  exact ⟨v, z, rfl, r1.keep kp fun b h => hh b (y13.mpr (.inl h)), RelF.keep r2 kp fun b h => hh b (y13.mpr (.inr h))⟩
theorem z22.keep {s : Sl} {v : V} (r : z22 K E O F H s v) (kp : Kp K F H F' H') (hh : ∀ b ∈ fpS H s v, H' b = H b) (hf : ∀ b ∈ fpS H s v, F' b -> F b) (ho : ∀ b ∈ fpS H s v, O b -> O' b) :
  z22 K E O' F' H' s v /\ fpS H' s v = fpS H s v := by
 cases s with
 | imm t => exact ⟨Rep.kp r kp, rfl⟩
 | own ts =>
  obtain ⟨a, vs, rfl, n, o, eh, z⟩ := r
  have m : a ∈ fpS H (.own ts) (.ref a) := by simp [fpS, rf]
  exact ⟨⟨a, vs, rfl, fun f => n (hf a m f), ho a m o, by rw [hh a m]; exact eh, z.kp kp⟩, rfl⟩
 | dic ts =>
  obtain ⟨a, vs, rfl, n, o, eh, z⟩ := r
  have m : a ∈ fpS H (.dic ts) (.ref a) := by simp [fpS, rf]
  exact ⟨⟨a, vs, rfl, fun f => n (hf a m f), ho a m o, by rw [hh a m]; exact eh, RepD.kp kp z⟩, rfl⟩
 | obj m c fs =>
  obtain ⟨a, vs, rfl, ha, hr, nd, ow, la⟩ := r
  rw [z2y ha] at hh hf ho
  have ha' : z5c H' a c vs := ha.keep (hh a (by simp))
  refine ⟨⟨a, vs, rfl, ha', hr.keep kp fun b h => hh b (y05 _ h), nd, fun b h => ?_, la⟩, by rw [z2y ha, z2y ha']⟩
  obtain ⟨n, q⟩ := ow b h
  refine ⟨fun f => n (hf b h f), ?_⟩
  cases m with
  | ro => exact q
  | own => exact ho b h q
  | lent => exact ho b h q
theorem z22.extP {s : Sl} {v : V} (r : z22 K E O F H s v) (x : Ext F H F' H') : z22 K E O F' H' s v /\ fpS H' s v = fpS H s v :=
 r.keep x.kp (fun b h => by
  obtain ⟨o, e, m⟩ := r.at h
  rw [e]
  exact x.same.get e fun ps z => by subst z; exact m.cases (fun _ z => by cases z) (fun _ z => by cases z) (fun _ _ _ z => by cases z)) (fun b h f => by
  rcases x.new b f with z | z
  ·exact z
  ·obtain ⟨o, e, _⟩ := r.at h
   rw [z] at e
   cases e) fun _ _ o => o
theorem z22.ext {s : Sl} {v : V} (r : z22 K E O F H s v) (x : Ext F H F' H') : z22 K E O F' H' s v := (r.extP x).1
end
structure RelE (K : y00) (F₀ : Addr -> Prop) (E : En) (O F : Addr -> Prop) (H : Hp) (ε : Ev) (σ : L2.St) : Prop where
 len : ε.length = σ.length
 val : ∀ (i : Nat) (s : Sl), ε[i]? = some (some s) -> ∃ v, σ[i]? = some (some v) /\ z22 K E O F H s v
 ne : ∀ (i j : Nat) (s u : Sl) (v w : V), i ≠ j -> ε[i]? = some (some s) -> ε[j]? = some (some u) -> s.isOwn = true -> u.isOwn = true -> σ[i]? = some (some v) -> σ[j]? = some (some w) -> ∀ a ∈ fpS H s v, a ∉ fpS H u w
 ent : Ext F₀ E.h F H
 o0 : ∀ a, O a -> E.h a = none
 fr : ∀ a, H a = none -> O a
section
variable {K : y00} {F₀ O F F1 : Addr -> Prop} {E : En} {H H1 : Hp} {ε : Ev} {σ : L2.St}
theorem RelE.dom (r : RelE K F₀ E O F H ε σ) : Dom F H := r.ent.dom
theorem RelE.ext (r : RelE K F₀ E O F H ε σ) (x : Ext F H F1 H1) : RelE K F₀ E O F1 H1 ε σ :=
 ⟨r.len, fun i s e => by
  obtain ⟨v, h1, h2⟩ := r.val i s e
  exact ⟨v, h1, h2.ext x⟩, fun i j s u v w hij e1 e2 o1 o2 h1 h2 => by
  obtain ⟨v', h1', r1⟩ := r.val i s e1
  obtain ⟨w', h2', r2⟩ := r.val j u e2
  rw [h1] at h1'
  rw [h2] at h2'
  cases h1'
  cases h2'
  rw [(r1.extP x).2, (r2.extP x).2]
  exact r.ne i j s u v w hij e1 e2 o1 o2 h1 h2, r.ent.trans x, r.o0, fun a e => r.fr a (x.same.none e)⟩
theorem z4a {α : Type} {l : List (Option α)} {i j : Nat} {x : Option α} {y : α} (h : (l.set i x)[j]? = some (some y)) : (i = j /\ x = some y /\ j < l.length) \/ (i ≠ j /\ l[j]? = some (some y)) := by
 rw [y2g] at h
 by_cases e : i = j
 ·subst e
  rw [if_pos rfl] at h
  split at h
  next hl => exact .inl ⟨rfl, Option.some.inj h, hl⟩
  next => cases h
 ·rw [if_neg e] at h
  exact .inr ⟨e, h⟩
theorem zgb {α : Type} {l : List (Option α)} {i : Nat} {x : Option α} (h : i < l.length) : (l.set i x)[i]? = some x := by
 rw [y2g, if_pos rfl, if_pos h]
theorem z71 {α : Type} {l : List (Option α)} {i j : Nat} {x : Option α} (h : i ≠ j) : (l.set i x)[j]? = l[j]? := by
 rw [y2g, if_neg h]
theorem RelE.setG {s : Sl} {v : V} (r : RelE K F₀ E O F H ε σ) (i : Nat) (h : z22 K E O F H s v) (fr : s.isOwn = true -> ∀ (j : Nat) (u : Sl) (w : V), i ≠ j -> ε[j]? = some (some u) -> u.isOwn = true -> σ[j]? = some (some w) -> ∀ a ∈ fpS H s v, a ∉ fpS H u w) :
  RelE K F₀ E O F H (ε.set i (some s)) (σ.set i (some v)) := by
 refine ⟨by simp [r.len], fun j u e => ?_, fun j k u w vu vw hjk e1 e2 o1 o2 h1 h2 => ?_, r.ent, r.o0, r.fr⟩
 ·rcases z4a e with ⟨rfl, e', hl⟩ | ⟨ne, e'⟩
  ·cases e'
   exact ⟨_, zgb (by rw [<- r.len]; exact hl), h⟩
  ·obtain ⟨w, h1, h2⟩ := r.val j u e'
   exact ⟨w, by rw [z71 ne]; exact h1, h2⟩
 ·rcases z4a e1 with ⟨rfl, e', hl⟩ | ⟨ne1, e1'⟩
  ·rcases z4a e2 with ⟨rfl, _, _⟩ | ⟨ne2, e2'⟩
   ·exact absurd rfl hjk
   ·rw [zgb (by rw [<- r.len]; exact hl)] at h1
    rw [z71 ne2] at h2
    cases h1
    cases e'
    exact fr o1 k w vw ne2 e2' o2 h2
  ·rw [z71 ne1] at h1
   rcases z4a e2 with ⟨rfl, e', hl⟩ | ⟨ne2, e2'⟩
   ·rw [zgb (by rw [<- r.len]; exact hl)] at h2
    cases h2
    cases e'
    intro a ha hb
    exact fr o2 j u vu ne1 e1' o1 h1 a hb ha
   ·rw [z71 ne2] at h2
    exact r.ne j k u w vu vw hjk e1' e2' o1 o2 h1 h2
theorem RelE.set {t : T} {v : V} (r : RelE K F₀ E O F H ε σ) (i : Nat) (h : Rep K F H t v) : RelE K F₀ E O F H (ε.set i (some (.imm t))) (σ.set i (some v)) := r.setG (s := .imm t) i h fun z => by cases z
theorem RelE.setNew {s : Sl} {v : V} (r : RelE K F₀ E O F H ε σ) (i : Nat) (x : Ext F H F1 H1) (h : z22 K E O F1 H1 s v) (hn : ∀ a ∈ fpS H1 s v, H a = none) : RelE K F₀ E O F1 H1 (ε.set i (some s)) (σ.set i (some v)) :=
 (r.ext x).setG i h fun _ j u w _ ej _ hj a ha hb => by
  obtain ⟨w', h1, h2⟩ := r.val j u ej
  rw [hj] at h1
  cases h1
  rw [(h2.extP x).2] at hb
  obtain ⟨o, e, _⟩ := h2.at hb
  rw [hn a ha] at e
  cases e
theorem zl3 {x : Addr} {o o' : HO} (hn : ¬ F x) (hx : H x = some o) (hm : HoM o) : Kp K F H F (upd H x o') := by
 refine ⟨fun b xs q => ?_, fun b xs f q => ⟨f, ?_⟩⟩
 ·rcases q with q | q
  ·refine .inl ?_
   have nb : b ≠ x := by
    rintro rfl
    rcases q with q | ⟨_, q⟩ <;> (rw [hx] at q; cases q; exact hm.cases (fun _ z => by cases z) (fun _ z => by cases z) (fun _ _ _ z => by cases z))
   rcases q with q | ⟨u, q⟩
   ·exact .inl (by rw [z0j nb]; exact q)
   ·exact .inr ⟨u, by rw [z0j nb]; exact q⟩
  ·exact .inr q
 ·have nb : b ≠ x := by
   rintro rfl
   exact hn f
  rcases q with q | ⟨u, q⟩
  ·exact .inl (by rw [z0j nb]; exact q)
  ·exact .inr ⟨u, by rw [z0j nb]; exact q⟩
theorem zi3 {x : Addr} {o o' : HO} {h0 : Hp} (e : Ext F₀ h0 F H) (h0x : h0 x = none) (hn : ¬ F x) (hx : H x = some o) (hm : HoM o) : Ext F₀ h0 F (upd H x o') := by
 refine ⟨fun b u q => ?_, e.sub, e.new, ⟨fun b f => ?_, e.dom.tgs.updM fun u z => by rw [hx] at z; cases z; exact hm⟩⟩
 ·have nb : b ≠ x := by
   rintro rfl
   rw [h0x] at q
   cases q
  rw [z0j nb]
  exact e.same b u q
 ·have nb : b ≠ x := by
   rintro rfl
   exact hn f
  rw [z0j nb]
  exact e.dom b f
theorem RelE.mutG {s s' : Sl} {v : V} {x : Addr} {o' : HO} (r : RelE K F₀ E O F H ε σ) {i : Nat} (e : ε[i]? = some (some s)) (ho : s.isOwn = true) (hv : σ[i]? = some (some v)) (hx : x ∈ fpS H s v)
  (h : Kp K F H F (upd H x o') -> z22 K E O F (upd H x o') s' v)
  (hp : ∀ b ∈ fpS (upd H x o') s' v, b ∈ fpS H s v \/ ∀ (j : Nat) (u : Sl) (w : V), i ≠ j -> ε[j]? = some (some u) -> u.isOwn = true -> σ[j]? = some (some w) -> b ∉ fpS H u w) :
  Kp K F H F (upd H x o') /\ RelE K F₀ E O F (upd H x o') (ε.set i (some s')) σ := by
 obtain ⟨v', hv', rs⟩ := r.val i s e
 rw [hv] at hv'
 cases hv'
 obtain ⟨o, eo, hm⟩ := rs.at hx
 obtain ⟨nF, hO, _⟩ := rs.held hx
 have hOx := hO ho
 have kp : Kp K F H F (upd H x o') := zl3 nF eo hm
 have h0 := r.o0 x hOx
 have keep : ∀ (j : Nat) (u : Sl) (w : V), i ≠ j -> ε[j]? = some (some u) -> σ[j]? = some (some w) -> z22 K E O F H u w -> z22 K E O F (upd H x o') u w /\ fpS (upd H x o') u w = fpS H u w := by
  intro j u w hij ej hj ru
  refine ru.keep kp (fun b hb => z0j ?_) (fun _ _ f => f) fun _ _ o => o
  rintro rfl
  cases ou : u.isOwn with
  | true => exact r.ne i j s u v w hij e ej ho ou hv hj b hx hb
  | false => exact (ru.held hb).2.2 ou h0
 refine ⟨kp, ⟨by simp [r.len], fun j u e' => ?_, fun j k u w vu vw hjk e1 e2 o1 o2 h1 h2 => ?_, zi3 r.ent h0 nF eo hm, r.o0, fun b e' => r.fr b ?_⟩⟩
 ·rcases z4a e' with ⟨rfl, e'', hl⟩ | ⟨ne, e''⟩
  ·cases e''
   exact ⟨_, hv, h kp⟩
  ·obtain ⟨w, h1, h2⟩ := r.val j u e''
   exact ⟨w, h1, (keep j u w ne e'' h1 h2).1⟩
 ·rcases z4a e1 with ⟨rfl, e', hl⟩ | ⟨ne1, e1'⟩
  ·rcases z4a e2 with ⟨rfl, _, _⟩ | ⟨ne2, e2'⟩
   ·exact absurd rfl hjk
   ·cases e'
    rw [hv] at h1
    cases h1
    obtain ⟨w', h2', r2⟩ := r.val k w e2'
    rw [h2] at h2'
    cases h2'
    rw [(keep k w vw ne2 e2' h2 r2).2]
    intro a ha hb
    rcases hp a ha with z | z
    ·exact r.ne i k s w v vw ne2 e e2' ho o2 hv h2 a z hb
    ·exact z k w vw ne2 e2' o2 h2 hb
  ·obtain ⟨v1, h1', r1⟩ := r.val j u e1'
   rw [h1] at h1'
   cases h1'
   rw [(keep j u vu ne1 e1' h1 r1).2]
   rcases z4a e2 with ⟨rfl, e', hl⟩ | ⟨ne2, e2'⟩
   ·cases e'
    rw [hv] at h2
    cases h2
    intro a ha hb
    rcases hp a hb with z | z
    ·exact r.ne i j s u v vu ne1 e e1' ho o1 hv h1 a z ha
    ·exact z j u vu ne1 e1' o1 h1 ha
   ·obtain ⟨w', h2', r2⟩ := r.val k w e2'
    rw [h2] at h2'
    cases h2'
    rw [(keep k w vw ne2 e2' h2 r2).2]
    exact r.ne j k u w vu vw hjk e1' e2' o1 o2 h1 h2
 ·by_cases nb : b = x
  ·subst nb
   rw [z0d] at e'
   cases e'
  ·rwa [z0j nb] at e'
theorem RelE.mut {s s' : Sl} {a : Addr} {o o' : HO} (r : RelE K F₀ E O F H ε σ) {i : Nat} (e : ε[i]? = some (some s)) (ho : s.isOwn = true) (hv : σ[i]? = some (some (.ref a))) (hn : ¬ F a) (ho' : O a) (ha : H a = some o)
  (hk : (∃ xs, o = .lst xs) \/ ∃ xs, o = .dK xs) (h : Kp K F H F (upd H a o') -> z22 K E O F (upd H a o') s' (.ref a)) (f1 : ∀ H : Hp, fpS H s (.ref a) = [a] := by intro _; rfl) (f2 : ∀ H : Hp, fpS H s' (.ref a) = [a] := by intro _; rfl) :
  Kp K F H F (upd H a o') /\ RelE K F₀ E O F (upd H a o') (ε.set i (some s')) σ :=
 r.mutG e ho hv (by rw [f1]; simp) h fun b hb => by
  rw [f2] at hb
  rw [f1]
  exact .inl hb
end
def tR (K : y00) (f : Fe) : TE := fun σ H Q => ∃ F₀ H₀ O F ε t, RelE K F₀ H₀ O F H ε σ /\ f ε = some t /\ ∀ v F' H', Ext F H F' H' -> RepR K O F' H' t v -> Q v H'
def tV (K : y00) (f : Fe) : TE := fun σ H Q => ∃ F₀ H₀ O F ε t, RelE K F₀ H₀ O F H ε σ /\ f ε = some t /\ ∀ v F' H', Ext F H F' H' -> Rep K F' H' t v -> Q v H'
def tN (K : y00) (f : Fe) : TE := fun σ H Q => ∃ F₀ H₀ O F ε ts, RelE K F₀ H₀ O F H ε σ /\ f ε = some (.list ts) /\ ∀ a vs F' H', Ext F H F' H' -> H a = none -> ¬ F' a -> H' a = some (.lst vs) -> RepL K F' H' ts vs -> Q (.ref a) H'
def tT (K : y00) (f : Ft) : TT := fun σ H Q => ∃ F₀ H₀ O F ε b, RelE K F₀ H₀ O F H ε σ /\ f ε = some b /\ ∀ F' H', Ext F H F' H' -> Q b H'
def tAR (K : y00) (fs : List Fe) : TA := fun σ H Q => ∃ F₀ H₀ O F ε ts, RelE K F₀ H₀ O F H ε σ /\ args fs ε = some ts /\ ∀ vs F' H', Ext F H F' H' -> Paired (RepR K O F' H') ts vs -> Q vs H'
def tAV (K : y00) (fs : List Fe) : TA := fun σ H Q => ∃ F₀ H₀ O F ε ts, RelE K F₀ H₀ O F H ε σ /\ args fs ε = some ts /\ ∀ vs F' H', Ext F H F' H' -> RepL K F' H' ts vs -> Q vs H'
abbrev PEr (X : Cx) (e : Expr) (f : Fe) : Prop := PE X e (tR X.K f)
abbrev PEv (X : Cx) (e : Expr) (f : Fe) : Prop := PE X e (tV X.K f)
abbrev PEn (X : Cx) (e : Expr) (f : Fe) : Prop := PE X e (tN X.K f)
abbrev PTt (X : Cx) (e : Expr) (f : Ft) : Prop := PT X e (tT X.K f)
abbrev PWt (X : Cx) (e : Expr) (f : Ft) : Prop := PW X e (tT X.K f)
abbrev PAr (X : Cx) (es : List Expr) (fs : List Fe) : Prop := PA X es (tAR X.K fs)
abbrev PAv (X : Cx) (es : List Expr) (fs : List Fe) : Prop := PA X es (tAV X.K fs)
theorem z10 {X : Cx} {e : Expr} {t t' : TE} (h : PE X e t) (k : ∀ σ H Q, t' σ H Q -> t σ H Q) : PE X e t' := fun pins s σ H Q I q => h pins s σ H Q I (k σ H Q q)
theorem zi8 {X : Cx} {e : Expr} {t t' : TT} (h : PT X e t) (k : ∀ σ H Q, t' σ H Q -> t σ H Q) : PT X e t' := fun pins s σ H Q I q => h pins s σ H Q I (k σ H Q q)
theorem zol {X : Cx} {e : Expr} {t t' : TT} (h : PW X e t) (k : ∀ σ H Q, t' σ H Q -> t σ H Q) : PW X e t' := fun w pins s σ H Q I q => h w pins s σ H Q I (k σ H Q q)
theorem zi9 {X : Cx} {e : List Expr} {t t' : TA} (h : PA X e t) (k : ∀ σ H Q, t' σ H Q -> t σ H Q) : PA X e t' := fun pos pins s σ H Q I q => h pos pins s σ H Q I (k σ H Q q)
theorem z3s {X : Cx} {e : Stmt} {t t' : TS} (h : PS X e t) (k : ∀ D σ H, t' D σ H -> t D σ H) : PS X e t' := fun pins s σ H D I q => h pins s σ H D I (k D σ H q)
theorem zm3 {X : Cx} {e : List Stmt} {t t' : TS} (h : PSs X e t) (k : ∀ D σ H, t' D σ H -> t D σ H) : PSs X e t' := fun pins s σ H D I q => h pins s σ H D I (k D σ H q)
section
variable {X : Cx} {e : Expr} {f : Fe}
theorem v2r (h : PEv X e f) : PEr X e f := z10 h fun σ H Q ⟨F₀, H₀, O, F, ε, t, r, e, k⟩ => ⟨F₀, H₀, O, F, ε, t, r, e, fun v F' H' x q => k v F' H' x (.inl q)⟩
theorem n2v (h : PEn X e f) (hf : ∀ ε t, f ε = some t -> ∃ ts, t = .list ts) : PEv X e f := z10 h fun σ H Q ⟨F₀, H₀, O, F, ε, t, r, e, k⟩ => by
 obtain ⟨ts, rfl⟩ := hf _ _ e
 refine ⟨F₀, H₀, O, F, ε, ts, r, e, fun a vs F' H' x hn nf ha q => ?_⟩
 have y : Ext F H (fun b => F' b \/ b = a) H' := ⟨x.same, fun b z => .inl (x.sub b z), fun b z => by
  rcases z with z | rfl
  ·exact x.new b z
  ·exact .inr hn, ⟨fun b z => by
  rcases z with z | rfl
  ·exact x.dom b z
  ·exact ⟨_, ha⟩, x.dom.tgs⟩⟩
 refine k (.ref a) _ H' y ?_
 simp only [Rep]
 exact ⟨a, vs, rfl, .inr rfl, .inl ha, q.keep (fun _ _ z => z) fun b _ z w => ⟨.inl z, w⟩⟩
end
end D
end
section
namespace D
open PySem PySem.Spec PyProof.Rows L2
variable [Tbl]
section
variable {X : Cx} {a b c e : Expr} {f g h : Fe} {pos : Pos}
theorem zij {t : T} {v : V} (he : PE X e (tC v)) (hr : ∀ F H, Rep X.K F H t v) : PEv X e (cst t) := z10 he fun σ H Q ⟨F₀, H₀, O, F, ε, t', r, e, k⟩ => by
 cases e
 exact k v F H (Ext.refl r.dom) (hr _ _)
theorem z03 {i j} : PEv X (.Constant (.int i) j pos) (cst (.int i)) := zij zrg fun _ _ => by simp [Rep]
theorem q_bl {i j} : PEv X (.Constant (.bool i) j pos) (cst (.bool i)) := zij zt2 fun _ _ => by simp [Rep]
theorem z08 {i j} : PEv X (.Constant (.str i) j pos) (cst (.str i)) := zij zrd fun _ _ => by simp [Rep]
theorem zan {j} : PEv X (.Constant .none j pos) (cst .none) := zij zre fun _ _ => by simp [Rep]
theorem q_nm (i : Nat) {x : Str} (hN : X.N[i]? = some x := by rfl) (hv : Vis X.env.scope x := by first | exact Or.inl rfl | exact Or.inr (Or.inl rfl) | exact Or.inr (Or.inr rfl)) (hd : (x == ("__debug__" : Str)) = false := by decide)
  (hcd : (x == ("__classdict__" : Str)) = false := by decide) : PEr X (.Name x pos) (nm i) := z10 (pv i hN hv hd hcd) fun σ H Q ⟨F₀, H₀, O, F, ε, t, r, e, k⟩ => by
 unfold nm at e
 split at e
 next t' he =>
  cases e
  obtain ⟨v, h1, h2⟩ := r.val _ _ he
  exact ⟨v, h1, k v F H (Ext.refl r.dom) (.inl h2)⟩
 next ts he =>
  cases e
  obtain ⟨v, h1, a, vs, rfl, n, h0, hh, hr⟩ := r.val _ _ he
  exact ⟨_, h1, k _ F H (Ext.refl r.dom) (.inr ⟨ts, a, vs, rfl, rfl, hh, hr⟩)⟩
 next => cases e
theorem z0c (i : Nat) {x : Str} (hN : X.N[i]? = some x := by rfl) (hv : Vis X.env.scope x := by first | exact Or.inl rfl | exact Or.inr (Or.inl rfl) | exact Or.inr (Or.inr rfl)) (hd : (x == ("__debug__" : Str)) = false := by decide)
  (hcd : (x == ("__classdict__" : Str)) = false := by decide) : PEv X (.Name x pos) (nmV i) := z10 (pv i hN hv hd hcd) fun σ H Q ⟨F₀, H₀, O, F, ε, t, r, e, k⟩ => by
 unfold nmV at e
 split at e
 next t' he =>
  cases e
  obtain ⟨v, h1, h2⟩ := r.val _ _ he
  exact ⟨v, h1, k v F H (Ext.refl r.dom) h2⟩
 next => cases e
def Op2 (K : y00) (o : T -> T -> Option T) (R : R2) : Prop :=
 ∀ (O F : Addr -> Prop) (H : Hp) (x y t : T) (vx vy : V) (Q : VK), Dom F H -> RepR K O F H x vx -> RepR K O F H y vy -> o x y = some t ->
  (∀ v F' H', Ext F H F' H' -> Rep K F' H' t v -> Q v H') -> R vx vy H Q
theorem z5x {o : T -> T -> Option T} {R : R2} (h : Op2 X.K o R) : ∀ σ H Q, tV X.K (op2 o f g) σ H Q -> tOp R (tR X.K f) (tR X.K g) σ H Q := by
 rintro σ H Q ⟨F₀, H₀, O, F, ε, t, r, e, k⟩
 simp only [op2, y01] at e
 obtain ⟨x, ex, y, ey, eo⟩ := e
 refine ⟨F₀, H₀, O, F, ε, x, r, ex, fun vx F1 H1 x1 rx => ⟨F₀, H₀, O, F1, ε, y, r.ext x1, ey, fun vy F2 H2 x2 ry => ?_⟩⟩
 exact h O F2 H2 x y t vx vy Q x2.dom (rx.ext x2) ry eo fun v F' H' x3 q3 => k v F' H' ((x1.trans x2).trans x3) q3
theorem Inv.lstR {pins : List (Addr × Obj)} {σ : L2.St} {H : Hp} {s : y04} {l : Addr} {xs : List V} (I : Inv X pins σ H s) (hH : Rd H l (.lst xs)) :
  xs.length <= y0k /\ ∃ (its : List Value) (n : Nat), Vals xs its /\ xs.length = its.length /\ s.heap.get? l = some { cls := .type "list", data := .seq its.toArray n } := by
 obtain ⟨z, its, n, r, e⟩ := hH.ok I.hok
 exact ⟨z, its, n, r, r.length, e⟩
def zsp : R2 := fun x y H Q => ∃ l b xs zs, x = .ref l /\ y = .ref b /\ Rd H l (.lst xs) /\ Rd H b (.lst zs) /\ xs.length + zs.length <= y0k /\ ∀ p, H p = none -> Q (.ref p) (upd H p (.lst (xs ++ zs)))
theorem zpp : OpR X (binaryOp .Add) zsp := by
 intro pins s σ H x y v u Q I rx ry h
 obtain ⟨l, b, xs, zs, rfl, rfl, hH, hB, hz, q⟩ := h
 cases rx
 cases ry
 obtain ⟨z, its, n, r, hl, e⟩ := Inv.lstR I hH
 obtain ⟨z2, its2, n2, r2, hl2, e2⟩ := Inv.lstR I hB
 refine PySem.P.add_list e e2 ?_ (by rw [y0i, y0i]; omega)
 have ea : its.toArray ++ its2.toArray = (its ++ its2).toArray := by simp
 rw [ea]
 exact ⟨.ref _, _, I.lnew (t' := s.toks) (r.append r2) (by rw [y2a]; omega), rfl, q _ I.fresh⟩
def zqx (K : y00) : R2 := fun x y H Q => ∃ a b ys, x = .ref a /\ y = .ref b /\ SqT K H a [] /\ SqT K H b ys /\ Q (.ref b) H
theorem zmx : OpR X (binaryOp .Add) (zqx X.K) := by
 intro pins s σ H x y v u Q I rx ry h
 obtain ⟨a, b, ys, rfl, rfl, ha, hb, q⟩ := h
 cases rx
 cases ry
 obtain ⟨its, r1, p1, _⟩ := I.tuple ha
 obtain ⟨its2, r2, p2, _⟩ := I.tuple hb
 have ei : its = [] := r1.nil_iff.mpr rfl
 subst ei
 obtain ⟨⟨cls, dd, data, sl⟩, ho, hc, n, hd⟩ := id p1
 obtain ⟨⟨cls2, dd2, data2, sl2⟩, ho2, hc2, n2, hd2⟩ := id p2
 simp only at hc hd hc2 hd2
 subst hc hd hc2 hd2
 exact concat_meets ⟨_, ho, rfl⟩ ⟨_, ho2, rfl⟩ noFill_tuple_add seq_tuple_add PySem.F.slot_tuple_add PySem.F.entry_tuple_add (PySem.F.args_tuple_add_2 _ _)
   (tuple_addW0 a b ([] : List Value).toArray its2.toArray n n2 dd dd2 sl sl2 (by simp)) ⟨ho, ho2, ⟨.ref b, H, I, rfl, q⟩⟩
theorem z86 : y0k = big := by rw [sizeLine_eq]; rfl
theorem z5w (ha : PEr X a f) (hb : PEr X b g) : PEv X (.BinOp a .Add b pos) (op2 oAdd f g) :=
 z10 (zil (zrp.or (zio.or (zmx.or (zpo.or zpp)))) ha hb) (z5x (by
  intro O F H x y t vx vy Q d rx ry e k
  unfold oAdd at e
  split at e
  ·cases e
   rw [rx.int, ry.int]
   exact .inl ⟨_, _, rfl, rfl, k _ F H (Ext.refl d) (by simp [Rep])⟩
  ·split at e
   next hz =>
    cases e
    rw [rx.str, ry.str]
    exact .inr (.inl ⟨_, _, rfl, rfl, by rw [z86]; exact hz, k _ F H (Ext.refl d) (by simp [Rep])⟩)
   next => cases e
  ·split at e
   next xs ys hz =>
    cases e
    obtain ⟨ax, vs, rfl, hs, hr⟩ := rx.tup
    obtain ⟨ay, ws, rfl, hs', hr'⟩ := ry.tup
    cases xs with
    | nil =>
     simp only [RepL] at hr
     subst hr
     refine .inr (.inr (.inl ⟨_, _, _, rfl, rfl, hs, hs', k _ F H (Ext.refl d) ?_⟩))
     simp only [Rep]
     exact ⟨_, _, rfl, hs', by simpa using hr'⟩
    | cons x0 xr =>
     refine .inr (.inr (.inr (.inl ⟨_, _, _, _, rfl, rfl, hs, hs', ?_, ?_, fun e0 => ?_, fun e0 p hp => ?_⟩)))
     ·intro z
      subst z
      have := hr.length
      simp at this
     ·rw [z86, <- hr.length, <- hr'.length]
      exact hz
     ·refine k _ F H (Ext.refl d) ?_
      subst e0
      have e1 : ys = [] := List.eq_nil_of_length_eq_zero (by rw [hr'.length]; rfl)
      subst e1
      simp only [Rep]
      exact ⟨_, _, rfl, hs, by simpa using hr⟩
     ·have x1 := Ext.laid (o := .tup (vs ++ ws)) d hp
      refine k _ F _ x1 ?_
      simp only [Rep]
      exact ⟨p, _, rfl, SqT.of z0d, (hr.append hr').ext x1⟩
   next => cases e
  ·split at e
   next xs ys hz =>
    cases e
    obtain ⟨ax, vs, rfl, hs, hr⟩ := rx.lst
    obtain ⟨ay, ws, rfl, hs', hr'⟩ := ry.lst
    refine .inr (.inr (.inr (.inr ⟨_, _, _, _, rfl, rfl, hs, hs', by rw [z86, <- hr.length, <- hr'.length]; exact hz, fun p hp => ?_⟩)))
    have x1 := Ext.laidF (o := .lst (vs ++ ws)) d hp
    refine k _ _ _ x1 ?_
    simp only [Rep]
    exact ⟨p, _, rfl, .inr rfl, .inl z0d, (hr.append hr').ext x1⟩
   next => cases e
  ·cases e))
theorem zqy (ha : PEr X a f) (hb : PEr X b g) : PEv X (.BinOp a .Sub b pos) (op2 oSub f g) :=
 z10 (zil zrl ha hb) (z5x (by
  intro O F H x y t vx vy Q d rx ry e k
  unfold oSub at e
  split at e
  ·cases e
   rw [rx.int, ry.int]
   exact ⟨_, _, rfl, rfl, k _ F H (Ext.refl d) (by simp [Rep])⟩
  ·cases e))
theorem zeh (ha : PEr X a f) (hb : PEr X b g) : PEv X (.BinOp a .Mult b pos) (op2 oMul f g) :=
 z10 (zil zrm ha hb) (z5x (by
  intro O F H x y t vx vy Q d rx ry e k
  unfold oMul at e
  split at e
  ·split at e
   next hm =>
    cases e
    rw [rx.int, ry.int]
    refine ⟨_, _, rfl, rfl, ?_, k _ F H (Ext.refl d) (by simp [Rep])⟩
    simpa [zn4, CMul] using hm
   next => cases e
  ·cases e))
theorem z5n (ha : PEr X a f) (hb : PEr X b g) : PEv X (.BinOp a .FloorDiv b pos) (op2 oDiv f g) :=
 z10 (zil zpn ha hb) (z5x (by
  intro O F H x y t vx vy Q d rx ry e k
  unfold oDiv at e
  split at e
  ·split at e
   next hm =>
    cases e
    rw [rx.int, ry.int]
    exact ⟨_, _, rfl, rfl, hm, k _ F H (Ext.refl d) (by simp [Rep])⟩
   next => cases e
  ·cases e))
theorem z44 (ha : PEr X a f) (hb : PEr X b g) : PEv X (.BinOp a .Mod b pos) (op2 oMod f g) :=
 z10 (zil zrn ha hb) (z5x (by
  intro O F H x y t vx vy Q d rx ry e k
  unfold oMod at e
  split at e
  ·split at e
   next hm =>
    cases e
    rw [rx.int, ry.int]
    exact ⟨_, _, rfl, rfl, hm, k _ F H (Ext.refl d) (by simp [Rep])⟩
   next => cases e
  ·cases e))
theorem q_ix (ha : PEr X a f) (hb : PEr X b g) (hs : zm2 b := by intro _ _; rfl) : PEv X (.Subscript a b pos) (op2 oIx f g) :=
 z10 (zt1 zry ha hb hs) (z5x (by
  intro O F H x y t vx vy Q d rx ry e k
  unfold oIx at e
  split at e
  ·obtain ⟨ax, vs, rfl, hs, hr⟩ := rx.tup
   rw [ry.int]
   simp only [atZ, y01] at e
   obtain ⟨j, hj, et⟩ := e
   obtain ⟨v, hv, rv⟩ := hr.get et
   refine .inr (.inl ⟨_, _, _, v, rfl, rfl, hs, ?_, k _ F H (Ext.refl d) rv⟩)
   rw [hr.length] at hj
   show (ixN _ _).bind _ = _
   rw [show ixN vs.length _ = some j from hj]
   exact hv
  ·obtain ⟨ax, vs, rfl, hs, hr⟩ := rx.lst
   rw [ry.int]
   simp only [atZ, y01] at e
   obtain ⟨j, hj, et⟩ := e
   obtain ⟨v, hv, rv⟩ := hr.get et
   refine .inl ⟨_, _, _, v, rfl, rfl, .inl hs, ?_, k _ F H (Ext.refl d) rv⟩
   rw [hr.length] at hj
   show (ixN _ _).bind _ = _
   rw [show ixN vs.length _ = some j from hj]
   exact hv
  ·split at e
   next hz =>
    rw [rx.str, ry.int]
    simp only [y07] at e
    obtain ⟨c, hc, rfl⟩ := e
    exact .inr (.inr ⟨_, _, c, rfl, rfl, by rw [z86]; exact hz, hc, k _ F H (Ext.refl d) (by simp [Rep])⟩)
   next => cases e
  ·cases e))
end
end D
end
section
namespace D
open PySem PySem.Spec PyProof.Rows L2
variable [Tbl]
def DO (K : y00) (F₀ : Addr -> Prop) (H₀ : En) (O F : Addr -> Prop) (H : Hp) (D : Ends) : Out -> Prop
 | .nx ε' => ∀ σ' F' H', Kp K F H F' H' -> RelE K F₀ H₀ O F' H' ε' σ' -> D.nx σ' H'
 | .rt t => ∀ v F' H', Ext F₀ H₀.h F' H' -> Rep K F' H' t v -> D.rt v H'
 | .rtm t ε' => ∀ v σ' F' H', RelE K F₀ H₀ O F' H' ε' σ' -> Rep K F' H' t v -> D.rt v H'
 | .rto s => ∀ a F' H', Ext F₀ H₀.h F' H' -> z22 K H₀ O F' H' s (.ref a) -> D.rt (.ref a) H'
 | .bk ε' => ∀ σ' F' H', Kp K F H F' H' -> RelE K F₀ H₀ O F' H' ε' σ' -> D.bk σ' H'
 | .ct ε' => ∀ σ' F' H', Kp K F H F' H' -> RelE K F₀ H₀ O F' H' ε' σ' -> D.ct σ' H'
def tS (K : y00) (g : Fs) : TS := fun D σ H => ∃ F₀ H₀ O F ε o, RelE K F₀ H₀ O F H ε σ /\ g ε = some o /\ DO K F₀ H₀ O F H D o
abbrev PSt (X : Cx) (s : Stmt) (g : Fs) : Prop := PS X s (tS X.K g)
abbrev PBt (X : Cx) (s : List Stmt) (g : Fs) : Prop := PSs X s (tS X.K g)
theorem DO.kp {K : y00} {F₀ O F F1 : Addr -> Prop} {H₀ : En} {H H1 : Hp} {D : Ends} {o : Out} (h : DO K F₀ H₀ O F H D o) (x : Kp K F H F1 H1) : DO K F₀ H₀ O F1 H1 D o := by
 cases o with
 | nx ε => exact fun σ' F' H' k r => h σ' F' H' (x.trans k) r
 | rt t => exact h
 | bk ε => exact fun σ' F' H' k r => h σ' F' H' (x.trans k) r
 | ct ε => exact fun σ' F' H' k r => h σ' F' H' (x.trans k) r
 | rtm t ε => exact h
 | rto s => exact h
section
variable {X : Cx} {e a b c : Expr} {f : Fe} {g g' : Fs} {ft : Ft} {st : Stmt} {rest : List Stmt} {pos : Pos}
theorem z2q : PBt X [] skip := zm3 zp5 fun D σ H ⟨F₀, H₀, O, F, ε, o, r, e, k⟩ => by
 cases e
 exact k σ F H Kp.refl r
theorem z09 (h : PSt X st g) : PBt X [st] g := zp4 h
theorem z04 (h1 : PSt X st g) (h2 : PBt X rest g') : PBt X (st :: rest) (seq g g') := zm3 (zms h1 h2) fun D σ H ⟨F₀, H₀, O, F, ε, o, r, e, k⟩ => by
 simp only [seq, y01] at e
 obtain ⟨o1, e1, e2⟩ := e
 refine ⟨F₀, H₀, O, F, ε, o1, r, e1, ?_⟩
 cases o1 with
 | nx ε' => exact fun σ' F' H' x r' => ⟨F₀, H₀, O, F', ε', o, r', e2, k.kp x⟩
 | rt t =>
  cases e2
  exact k
 | bk ε' =>
  cases e2
  exact k
 | ct ε' =>
  cases e2
  exact k
 | rtm t ε' =>
  cases e2
  exact k
 | rto s =>
  cases e2
  exact k
theorem z2w (h : PEv X e f) : PSt X (.Return (some e) pos) (rtn f) := z3s (zkj h) fun D σ H ⟨F₀, H₀, O, F, ε, o, r, e, k⟩ => by
 simp only [rtn, y07] at e
 obtain ⟨t, et, rfl⟩ := e
 exact ⟨F₀, H₀, O, F, ε, t, r, et, fun v F' H' x q => k v F' H' (r.ent.trans x) q⟩
theorem znz (i : Nat) {x : Str} {npos : Pos} (hN : X.N[i]? = some x := by rfl) (hv : Vis X.env.scope x := by first | exact Or.inl rfl | exact Or.inr (Or.inl rfl) | exact Or.inr (Or.inr rfl)) (hd : (x == ("__debug__" : Str)) = false := by decide)
  (hcd : (x == ("__classdict__" : Str)) = false := by decide) : PSt X (.Return (some (.Name x npos)) pos) (rtn (nm i)) := z3s (zkj (pv i hN hv hd hcd)) fun D σ H ⟨F₀, H₀, O, F, ε, o, r, e, k⟩ => by
 simp only [rtn, y07] at e
 obtain ⟨t, et, rfl⟩ := e
 unfold nm at et
 split at et
 next t' he =>
  cases et
  obtain ⟨v, h1, h2⟩ := r.val _ _ he
  exact ⟨v, h1, k v F H r.ent h2⟩
 next ts he =>
  cases et
  obtain ⟨v, h1, a, vs, rfl, n, h0, ha, q⟩ := r.val _ _ he
  have x2 := r.ent
  have y : Ext F₀ H₀.h (fun b => F b \/ b = a) H := ⟨x2.same, fun b z => .inl (x2.sub b z), fun b z => by
   rcases z with z | rfl
   ·exact x2.new b z
   ·exact .inr (r.o0 _ h0), ⟨fun b z => by
   rcases z with z | rfl
   ·exact x2.dom b z
   ·exact ⟨_, ha⟩, x2.dom.tgs⟩⟩
  refine ⟨_, h1, k _ _ H y ?_⟩
  simp only [Rep]
  exact ⟨a, vs, rfl, .inr rfl, .inl ha, q.keep (fun _ _ z => z) fun b _ z w => ⟨.inl z, w⟩⟩
 next => cases et
theorem s_if (hc : PTt X c ft) (ha : PBt X rest g) {els : List Stmt} (hb : PBt X els g') : PSt X (.If c rest els pos) (iff ft g g') := z3s (zsx hc ha hb) fun D σ H ⟨F₀, H₀, O, F, ε, o, r, e, k⟩ => by
 simp only [iff, y01] at e
 obtain ⟨b, eb, e⟩ := e
 refine ⟨F₀, H₀, O, F, ε, b, r, eb, fun F' H' x => ?_⟩
 cases b with
 | true => exact iteT ⟨F₀, H₀, O, F', ε, o, r.ext x, by simpa using e, k.kp x.kp⟩
 | false => exact iteF ⟨F₀, H₀, O, F', ε, o, r.ext x, by simpa using e, k.kp x.kp⟩
theorem z24 (i : Nat) {x : Str} {pos' : Pos} (hN : X.N.Nodup) (he : PEv X e f) (hi : X.N[i]? = some x := by rfl) (hx : Loc X.env.scope x := by first | exact Or.inl rfl | exact Or.inr rfl)
  (hs : swapsWith e (some (.Name x pos')) pos.line X.env = pure false := by rfl) (hf : X.fn x = true \/ X.env.scope.names.lookup x = some .local := by first | exact .inl rfl | exact .inr rfl) :
  PSt X (.Assign [.Name x pos'] e pos) (asg i f) := z3s (zki hN hi hx he hs hf) fun D σ H ⟨F₀, H₀, O, F, ε, o, r, e, k⟩ => by
 simp only [asg, y07] at e
 obtain ⟨t, et, rfl⟩ := e
 refine ⟨F₀, H₀, O, F, ε, t, r, et, fun v F' H' x q => ?_⟩
 exact k _ F' H' x.kp ((r.ext x).set i q)
theorem zo1 (i : Nat) {x : Str} {pos' : Pos} (hN : X.N.Nodup) (he : PEn X e f) (hi : X.N[i]? = some x := by rfl) (hx : Loc X.env.scope x := by first | exact Or.inl rfl | exact Or.inr rfl)
  (hs : swapsWith e (some (.Name x pos')) pos.line X.env = pure false := by rfl) (hf : X.fn x = true \/ X.env.scope.names.lookup x = some .local := by first | exact .inl rfl | exact .inr rfl) :
  PSt X (.Assign [.Name x pos'] e pos) (asgN i f) := z3s (zki hN hi hx he hs hf) fun D σ H ⟨F₀, H₀, O, F, ε, o, r, e, k⟩ => by
 simp only [asgN, y01] at e
 obtain ⟨t, et, e⟩ := e
 split at e
 next ts =>
  cases e
  refine ⟨F₀, H₀, O, F, ε, ts, r, et, fun a vs F' H' x hn nf ha q => ?_⟩
  exact k _ F' H' x.kp (r.setNew (s := .own ts) i x ⟨a, vs, rfl, nf, r.fr a hn, ha, q⟩ fun b hb => by
   have : b = a := by simpa [fpS, rf] using hb
   rw [this]
   exact hn)
 next => cases e
def tG (K : y00) (g : Fg) : TG := fun v σ H Q => ∃ F₀ H₀ O F ε t ε', RelE K F₀ H₀ O F H ε σ /\ Rep K F H t v /\ g t ε = some ε' /\ ∀ σ', RelE K F₀ H₀ O F H ε' σ' -> Q σ' H
def tGs (K : y00) (gs : List Fg) : TGs := fun vs σ H Q => ∃ F₀ H₀ O F ε ts ε', RelE K F₀ H₀ O F H ε σ /\ RepL K F H ts vs /\ gAll gs ts ε = some ε' /\ ∀ σ', RelE K F₀ H₀ O F H ε' σ' -> Q σ' H
abbrev PGt (X : Cx) (e : Expr) (g : Fg) : Prop := PG X e (tG X.K g)
abbrev PGst (X : Cx) (es : List Expr) (gs : List Fg) : Prop := PGs X es (tGs X.K gs)
theorem zon {X : Cx} {e : Expr} {t t' : TG} (h : PG X e t) (k : ∀ v σ H Q, t' v σ H Q -> t v σ H Q) : PG X e t' := fun pins s σ H v u Q I r q => h pins s σ H v u Q I r (k v σ H Q q)
theorem zm5 {X : Cx} {e : List Expr} {t t' : TGs} (h : PGs X e t) (k : ∀ v σ H Q, t' v σ H Q -> t v σ H Q) : PGs X e t' := fun pins s σ H v u Q I r q => h pins s σ H v u Q I r (k v σ H Q q)
theorem g_nm (i : Nat) {x : Str} (hN : X.N.Nodup) (hi : X.N[i]? = some x := by rfl) (hx : Loc X.env.scope x := by first | exact Or.inl rfl | exact Or.inr rfl)
  (hf : X.fn x = true \/ X.env.scope.names.lookup x = some .local := by first | exact .inl rfl | exact .inr rfl) : PGt X (.Name x pos) (gNm i) := zon (zpe hN hi hx hf) fun v σ H Q ⟨F₀, H₀, O, F, ε, t, ε', r, q, e, k⟩ => by
 cases e
 exact k _ (r.set i q)
theorem zq5 : PGst X [] [] := zm5 zpd fun vs σ H Q ⟨F₀, H₀, O, F, ε, ts, ε', r, q, e, k⟩ => by
 cases ts with
 | nil =>
  cases e
  simp only [RepL] at q
  exact ⟨q, k σ r⟩
 | cons t ts => cases e
theorem zbe {es : List Expr} {g : Fg} {gs : List Fg} (h1 : PGt X e g) (h2 : PGst X es gs) (hs : (assignEach (e :: es) X.env).map (·.2) = assign e X.env :: (assignEach es X.env).map (·.2) := by rfl) : PGst X (e :: es) (g :: gs) :=
 zm5 (zmu h1 h2 hs) fun vs σ H Q ⟨F₀, H₀, O, F, ε, ts, ε', r, q, e, k⟩ => by
 cases ts with
 | nil => cases e
 | cons t ts =>
  simp only [gAll, y01] at e
  obtain ⟨ε1, e1, e2⟩ := e
  simp only [RepL] at q
  obtain ⟨v, vr, rfl, q1, q2⟩ := q
  exact ⟨v, vr, rfl, F₀, H₀, O, F, ε, t, ε1, r, q1, e1, fun σ1 r1 => ⟨F₀, H₀, O, F, ε1, ts, ε', r1, q2, e2, k⟩⟩
theorem zi1 : ∀ {gs : List Fg} {ts : List T} {ε ε' : Ev}, gAll gs ts ε = some ε' -> ts.length = gs.length
 | [], [], _, _, _ => rfl
 | [], _ :: _, _, _, h => by cases h
 | _ :: _, [], _, _, h => by cases h
 | g :: gs, t :: ts, ε, ε', h => by
  simp only [gAll, y01] at h
  obtain ⟨ε1, _, h⟩ := h
  simp [zi1 h]
theorem zq4 {es : List Expr} {k : Nat} {gs : List Fg} (h : PGst X es gs) (hc : X.calm = true := by rfl) (hn : (assignEach es X.env).length = gs.length := by rfl) (hst : (assignEach es X.env).findIdx? (·.1) = none := by rfl) :
  PGt X (.Tuple es k pos) (gTu gs) := zon (zra hc h hn hst) fun v σ H Q ⟨F₀, H₀, O, F, ε, t, ε', r, q, e, k⟩ => by
 unfold gTu at e
 split at e
 next ts =>
  simp only [Rep] at q
  obtain ⟨a, vs, rfl, hs, hr⟩ := q
  exact ⟨a, vs, rfl, hs, by rw [<- hr.length]; exact zi1 e, F₀, H₀, O, F, ε, ts, ε', r, hr, e, k⟩
 next => cases e
structure ItOk (K : y00) (J : It) (F1 : Addr -> Prop) (H1 : Hp) (ts : List T) : Prop where
 go : ∀ i F H t, Kp K F1 H1 F H -> Dom F H -> ts[i]? = some t -> J.go i H
 yld : ∀ i F H t x H', Kp K F1 H1 F H -> Dom F H -> ts[i]? = some t -> J.yld i H x H' -> ∃ F', Ext F H F' H' /\ Rep K F' H' t x
 stop : ∀ i F H, Kp K F1 H1 F H -> ts.length <= i -> J.stop i H
def tI (K : y00) (f : Fi) : TI := fun σ H R => ∃ F₀ H₀ O F ε ts, RelE K F₀ H₀ O F H ε σ /\ f ε = some ts /\ ∀ J F' H', Ext F H F' H' -> ItOk K J F' H' ts -> R J H'
abbrev PIt (X : Cx) (tg e : Expr) (f : Fi) : Prop := PI X tg e (tI X.K f)
theorem zm4 {X : Cx} {tg e : Expr} {t t' : TI} (h : PI X tg e t) (k : ∀ σ H R, t' σ H R -> t σ H R) : PI X tg e t' := fun pins s σ H R I q => h pins s σ H R I (k σ H R q)
theorem zl7 {K : y00} {a : Addr} {F1 : Addr -> Prop} {H1 : Hp} {ts : List T} {vs : List V} (fa : F1 a) (hr : Rd H1 a (.lst vs)) (q : RepL K F1 H1 ts vs) : ItOk K (Itl K a) F1 H1 ts where
 go := fun i F H t kp d e => by
  obtain ⟨v, h1, _⟩ := q.get e
  exact ⟨vs, v, .inl (kp.lst _ _ fa hr).2, h1⟩
 yld := fun i F H t x H' kp d e y => by
  obtain ⟨rfl, y⟩ := y
  obtain ⟨v, h1, h2⟩ := (q.kp kp).get e
  have := y vs (.inl (kp.lst _ _ fa hr).2)
  rw [h1] at this
  cases this
  exact ⟨F, Ext.refl d, h2⟩
 stop := fun i F H kp hl => ⟨vs, .inl (kp.lst _ _ fa hr).2, by rw [<- q.length]; exact hl⟩
theorem znc {K : y00} {a : Addr} {F1 : Addr -> Prop} {H1 : Hp} {ts : List T} {vs : List V} (hr : SqT K H1 a vs) (q : RepL K F1 H1 ts vs) : ItOk K (Itt K a) F1 H1 ts where
 go := fun i F H t kp d e => by
  obtain ⟨v, h1, _⟩ := q.get e
  exact ⟨vs, v, kp.tup _ _ hr, h1⟩
 yld := fun i F H t x H' kp d e y => by
  obtain ⟨rfl, y⟩ := y
  obtain ⟨v, h1, h2⟩ := (q.kp kp).get e
  have := y vs (kp.tup _ _ hr)
  rw [h1] at this
  cases this
  exact ⟨F, Ext.refl d, h2⟩
 stop := fun i F H kp hl => ⟨vs, kp.tup _ _ hr, by rw [<- q.length]; exact hl⟩
theorem zge (lo hi : Int) : (rng lo hi).length = (hi - lo).toNat := by simp [rng]
theorem znd {K : y00} {F1 : Addr -> Prop} {H1 : Hp} (lo hi : Int) : ItOk K (Itr lo (hi - lo).toNat) F1 H1 (rng lo hi) where
 go := fun i F H t kp d e => by
  have h := (y0l.mp e).1
  rw [zge] at h
  exact h
 yld := fun i F H t x H' kp d e y => by
  obtain ⟨rfl, rfl⟩ := y
  refine ⟨F, Ext.refl d, ?_⟩
  have h := (y0l.mp e).1
  rw [zge] at h
  unfold rng at e
  rw [y17, List.getElem?_range h] at e
  simp at e
  subst e
  simp [Rep]
 stop := fun i F H kp hl => by
  rw [zge] at hl
  exact hl
def iSq (K : y00) (tl : TE) : TI := fun σ H R => tl σ H fun x H1 => ∃ a, x = .ref a /\ (((∃ xs, SqL K H1 a xs) /\ R (Itl K a) H1) \/ ((∃ xs, SqT K H1 a xs) /\ R (Itt K a) H1))
theorem zsy {tg l : Expr} {tl : TE} (hl : PE X l tl) : PI X tg l (iSq X.K tl) := by
 intro pins s σ H R I h
 refine thn (hl pins s σ H _ I h) fun v s1 ⟨x, H1, I1, r1, a, e1, q⟩ => ?_
 subst e1
 cases r1
 have fp : ∀ b ∈ [s1.heap.objs.size], FpOk X pins H1 b := fun b hb => by
  have e : b = s1.heap.objs.size := by simpa using hb
  subst e
  exact I1.fpOk (y0p _) (I1.hok.fresh (y0p _))
 rcases q with ⟨⟨xs, hq⟩, q⟩ | ⟨⟨xs, hq⟩, q⟩
 ·obtain ⟨its, rv, p, hz⟩ := I1.list hq
  refine wpAny_pyIter_list p.isList ?_
  exact ⟨s1.heap.objs.size, [s1.heap.objs.size], _, _, H1, rfl, I1.kept (t' := s1.toks) fun b o e => y03 _ e, zjr a _, ⟨_, y0m _ rfl, rfl, rfl⟩, fp, q⟩
 ·obtain ⟨its, rv, p, hz⟩ := I1.tuple hq
  refine wpAny_pyIter_tuple (show s1.heap.IsTuple a its.toArray from p) ?_
  exact ⟨s1.heap.objs.size, [s1.heap.objs.size], _, _, H1, rfl, I1.kept (t' := s1.toks) fun b o e => y03 _ e, zid a _, ⟨_, y0m _ rfl, rfl, rfl⟩, fp, q⟩
theorem z7a {tg l : Expr} {f : Fe} (hl : PEv X l f) : PIt X tg l (z2m f) := zm4 (zsy hl) fun σ H R ⟨F₀, H₀, O, F, ε, ts, r, e, k⟩ => by
 simp only [z2m, y01] at e
 obtain ⟨t, et, e⟩ := e
 split at e
 ·cases e
  refine ⟨F₀, H₀, O, F, ε, _, r, et, fun v F' H' x q => ?_⟩
  simp only [Rep] at q
  obtain ⟨a, vs, rfl, hs, hr⟩ := q
  exact ⟨a, rfl, .inr ⟨⟨vs, hs⟩, k _ F' H' x (znc hs hr)⟩⟩
 ·cases e
  refine ⟨F₀, H₀, O, F, ε, _, r, et, fun v F' H' x q => ?_⟩
  simp only [Rep] at q
  obtain ⟨a, vs, rfl, fa, hs, hr⟩ := q
  exact ⟨a, rfl, .inl ⟨⟨vs, .inl hs⟩, k _ F' H' x (zl7 fa hs hr)⟩⟩
 ·cases e
theorem zle {tg a : Expr} {f : Fe} {p pos : Pos} (hm : X.mg "range" = none) (ha : PEr X a f) (hg : Gl X "range" := by rfl) (hs : y0a [a] X.env = [(false, eval a X.env)] := by rfl) (hs2 : y0a [a] X.env = (false, eval a X.env) :: y0a [] X.env := by rfl) :
  PIt X tg (.Call (.Name "range" p) [a] [] pos) (z4z f) := zm4 (zkn hg hm (z49 ha z6l hs2) hs) fun σ H R ⟨F₀, H₀, O, F, ε, ts, r, e, k⟩ => by
 simp only [z4z, y01] at e
 obtain ⟨t, et, e⟩ := e
 split at e
 next j =>
  split at e
  next hz =>
   cases e
   refine ⟨F₀, H₀, O, F, ε, _, r, et, fun v F' H' x q => ⟨j, by rw [q.int], ?_, ?_, k _ F' H' x (by simpa using znd 0 j)⟩⟩
   ·simp [z7q] at hz
    omega
   ·simp [z7q] at hz
    omega
  next => cases e
 next => cases e
theorem zed {tg iter : Expr} {body : List Stmt} {it : Fi} {gg : Fg} {bb : Fs} (hp : PassesOwn (model X.prog X.w) X.A X.env X.xe) (hi : PIt X tg iter it) (hg : PGt X tg gg) (hb : PBt X body bb) (hc : X.calm = true := by rfl)
  (hs : ∀ x, foldedSetIterable iter X.env x = pure x := by intro _; rfl) : PSt X (.For tg iter body [] pos) (for_ it gg bb) := z3s (zr9 hp hc hi hg hb hs) fun D σ H ⟨F₀, H₀, O, F, ε, o, r, e, k⟩ => by
 simp only [for_, y01] at e
 obtain ⟨ts, et, e⟩ := e
 refine ⟨F₀, H₀, O, F, ε, ts, r, et, fun J F1 H1 x1 ok => ?_⟩
 refine ⟨fun i m σ' H' => m = ts.length - i /\ i <= ts.length /\ ∃ F' ε' , Kp X.K F1 H1 F' H' /\ RelE X.K F₀ H₀ O F' H' ε' σ' /\ forL gg bb (ts.drop i) ε' = some o, ⟨_, rfl, y2c _, F1, ε, Kp.refl, r.ext x1, by simpa using e⟩, ?_⟩
 rintro i m σ' H' ⟨rfl, hi', F', ε', kp, r', e'⟩
 by_cases hlt : i < ts.length
 ·have hd : ts.drop i = ts[i] :: ts.drop (i + 1) := List.drop_eq_getElem_cons hlt
  have hg' : ts[i]? = some ts[i] := y0w hlt
  rw [hd] at e'
  simp only [forL, y01] at e'
  obtain ⟨ε1, eg, o1, eb, e'⟩ := e'
  refine .inr ⟨ok.go i F' H' _ kp r'.dom hg', fun σ2 H2 => ∃ m', m' < ts.length - i /\ (m' = ts.length - (i + 1) /\ i + 1 <= ts.length /\ ∃ F2 ε2, Kp X.K F1 H1 F2 H2 /\ RelE X.K F₀ H₀ O F2 H2 ε2 σ2 /\ forL gg bb (ts.drop (i + 1)) ε2 = some o), fun _ _ z => z, fun x H2 y => ?_⟩
  obtain ⟨F2, x2, rx⟩ := ok.yld i F' H' _ x H2 kp r'.dom hg' y
  refine ⟨F₀, H₀, O, F2, ε', _, ε1, r'.ext x2, rx, eg, fun σ3 r3 => ⟨F₀, H₀, O, F2, ε1, o1, r3, eb, ?_⟩⟩
  have kp2 : Kp X.K F1 H1 F2 H2 := kp.trans x2.kp
  cases o1 with
  | nx ε2 => exact fun σ4 F4 H4 k4 r4 => ⟨_, by omega, rfl, hlt, F4, ε2, kp2.trans k4, r4, e'⟩
  | ct ε2 => exact fun σ4 F4 H4 k4 r4 => ⟨_, by omega, rfl, hlt, F4, ε2, kp2.trans k4, r4, e'⟩
  | bk ε2 =>
   cases e'
   exact fun σ4 F4 H4 k4 r4 => k σ4 F4 H4 ((x1.kp.trans kp2).trans k4) r4
  | rt t =>
   cases e'
   exact k
  | rtm t ε2 =>
   cases e'
   exact k
  | rto s =>
   cases e'
   exact k
 ·have hd : ts.drop i = [] := List.drop_eq_nil_of_le (by omega)
  rw [hd] at e'
  cases e'
  exact .inl ⟨ok.stop i F' H' kp (by omega), k σ' F' H' (x1.kp.trans kp) r'⟩
theorem zsl (i : Nat) {x : Str} {px apos cpos : Pos} (he : PEv X e f) (hN : X.N[i]? = some x := by rfl) (hv : Vis X.env.scope x := by first | exact Or.inl rfl | exact Or.inr (Or.inl rfl) | exact Or.inr (Or.inr rfl)) (hd : (x == ("__debug__" : Str)) = false := by decide)
  (hcd : (x == ("__classdict__" : Str)) = false := by decide) (hs1 : y0a [e] X.env = (false, eval e X.env) :: y0a [] X.env := by rfl)
  (hbase : attributeBase (.Name x px) "append" X.env (eval (.Name x px) X.env) = eval (.Name x px) X.env := by rfl)
  (hfew : ((backTo cpos (y0a [e] X.env)).all (fun x => !x.1) && (backToKw cpos (keywordEach [] X.env)).all (fun x => x.1.isSome)
   && decide (([e] : List Expr).length + ([] : List Keyword).length + (if ([] : List Keyword).isEmpty then 0 else 1) < 30)) = true := by rfl)
  (hline : (apos.endLine == cpos.line) = true := by rfl) (hplain : (backTo cpos (y0a [] X.env)).any (·.1) = false := by rfl)
  (hsw : swapsWith (.Call (.Attribute (.Name x px) "append" apos) [e] [] cpos) none pos.line X.env = pure false := by rfl) :
  PSt X (.Expr (.Call (.Attribute (.Name x px) "append" apos) [e] [] cpos) pos) (app i f) :=
 z3s (zdh (zpi PySem.F.plainAttrs_list PySem.F.slot_list_append PySem.F.type_list_append zax (pv i hN hv hd hcd) (z49 he z6l hs1) hbase hfew hline hs1 hplain) hsw) fun D σ H ⟨F₀, H₀, O, F, ε, o, r, e, k⟩ => by
 unfold app at e
 split at e
 next ts he =>
  simp only [y01] at e
  obtain ⟨t, et, e⟩ := e
  split at e
  next hz =>
   cases e
   obtain ⟨v, h1, a, vs, rfl, n, h0, hh, hr⟩ := r.val _ _ he
   refine ⟨_, h1, .inl ⟨rfl, _, SqL.of hh⟩, F₀, H₀, O, F, ε, t, r, et, fun v F' H' x q => ?_⟩
   have r1 := r.ext x
   obtain ⟨v1, h1', a1, vs1, e1, n1, h01, hh1, hr1⟩ := r1.val _ _ he
   rw [h1] at h1'
   cases h1'
   cases e1
   refine ⟨a, vs1, v, rfl, rfl, hh1, by rw [z86, <- hr1.length]; exact hz, ?_⟩
   obtain ⟨kp, r2⟩ := r1.mut (s' := .own (ts ++ [t])) (o' := .lst (vs1 ++ [v])) he rfl h1 n1 h0 hh1 (.inl ⟨_, rfl⟩) fun kp => ⟨a, _, rfl, n1, h0, z0d, (hr1.kp kp).append (RepL.cons (q.kp kp) RepL.nil)⟩
   exact k σ F' _ (x.kp.trans kp) r2
  next => cases e
 next => cases e
end
end D
end
section
namespace D
open PySem PySem.Spec PyProof.Rows L2
variable [Tbl]
section
variable {X : Cx} {a b c e : Expr} {es : List Expr} {f g h : Fe} {fs : List Fe} {ft gt : Ft} {pos p : Pos}
theorem z5g : PAr X [] [] := zi9 z6l fun σ H Q ⟨F₀, H₀, O, F, ε, ts, r, e, k⟩ => by
 cases e
 exact k [] F H (Ext.refl r.dom) .nil
theorem z3i (ha : PEr X e f) (hr : PAr X es fs) (hs : y0a (e :: es) X.env = (false, eval e X.env) :: y0a es X.env := by rfl) : PAr X (e :: es) (f :: fs) := zi9 (z49 ha hr hs) fun σ H Q ⟨F₀, H₀, O, F, ε, ts, r, e, k⟩ => by
 simp only [args, y01, y07] at e
 obtain ⟨t, et, us, eu, rfl⟩ := e
 refine ⟨F₀, H₀, O, F, ε, t, r, et, fun v F1 H1 x1 q1 => ⟨F₀, H₀, O, F1, ε, us, r.ext x1, eu, fun vs F2 H2 x2 q2 => ?_⟩⟩
 exact k _ F2 H2 (x1.trans x2) (.cons (q1.ext x2) q2)
theorem z05 : PAv X [] [] := zi9 z6l fun σ H Q ⟨F₀, H₀, O, F, ε, ts, r, e, k⟩ => by
 cases e
 exact k [] F H (Ext.refl r.dom) RepL.nil
theorem z00 (ha : PEv X e f) (hr : PAv X es fs) (hs : y0a (e :: es) X.env = (false, eval e X.env) :: y0a es X.env := by rfl) : PAv X (e :: es) (f :: fs) := zi9 (z49 ha hr hs) fun σ H Q ⟨F₀, H₀, O, F, ε, ts, r, e, k⟩ => by
 simp only [args, y01, y07] at e
 obtain ⟨t, et, us, eu, rfl⟩ := e
 refine ⟨F₀, H₀, O, F, ε, t, r, et, fun v F1 H1 x1 q1 => ⟨F₀, H₀, O, F1, ε, us, r.ext x1, eu, fun vs F2 H2 x2 q2 => ?_⟩⟩
 exact k _ F2 H2 (x1.trans x2) (RepL.cons (q1.ext x2) q2)
theorem z2a {x1} (h : PAv X es fs) : PEv X (.Tuple es x1 pos) (z0g fs) := z10 (zrc h) fun σ H Q ⟨F₀, H₀, O, F, ε, t, r, e, k⟩ => by
 simp only [z0g, y01] at e
 obtain ⟨ts, et, e⟩ := e
 split at e
 next hz =>
  cases e
  refine ⟨F₀, H₀, O, F, ε, ts, r, et, fun vs F1 H1 x1 q1 => ⟨by rw [z86, <- q1.length]; exact hz, fun p hp => ?_⟩⟩
  have x2 := Ext.laid (o := .tup vs) x1.dom hp
  refine k _ F1 _ (x1.trans x2) ?_
  simp only [Rep]
  exact ⟨p, vs, rfl, SqT.of z0d, q1.ext x2⟩
 next => cases e
theorem zii (h : PAv X es fs) : PEn X (.List es pos) (z3x fs) := z10 (zrf h) fun σ H Q ⟨F₀, H₀, O, F, ε, us, r, e, k⟩ => by
 simp only [z3x, y01] at e
 obtain ⟨ts, et, e⟩ := e
 split at e
 next hz =>
  cases e
  refine ⟨F₀, H₀, O, F, ε, _, r, et, fun vs F1 H1 x1 q1 => ⟨by rw [z86, <- q1.length]; exact hz, fun p hp => ?_⟩⟩
  have x2 := Ext.laid (o := .lst vs) x1.dom hp
  refine k p vs F1 _ (x1.trans x2) ?_ ?_ z0d (q1.ext x2)
  ·exact x1.same.none hp
  ·intro fp
   obtain ⟨o, eo⟩ := x1.dom p fp
   rw [hp] at eo
   cases eo
 next => cases e
theorem zo4 (h : PAv X es fs) : PEv X (.List es pos) (z3x fs) := n2v (zii h) fun ε t e => by
 simp only [z3x, y01] at e
 obtain ⟨ts, et, e⟩ := e
 split at e
 ·cases e
  exact ⟨_, rfl⟩
 ·cases e
mutual
theorem zhp {F : Addr -> Prop} {pins : List (Addr × Obj)} {σ : L2.St} {H : Hp} {s : y04} (I : Inv X pins σ H s) : ∀ {t : T} {v : V} {u : Value}, Rep X.K F H t v -> RelV v u -> ∃ as, Reads s.heap u t as
 | .none, v, u, h, r => by
  simp only [Rep] at h
  subst h
  cases r
  exact ⟨_, .none⟩
 | .bool b, v, u, h, r => by
  simp only [Rep] at h
  subst h
  cases r
  exact ⟨_, .bool b⟩
 | .int i, v, u, h, r => by
  simp only [Rep] at h
  subst h
  obtain ⟨t, rfl⟩ := r
  exact ⟨_, .int i t⟩
 | .str x, v, u, h, r => by
  simp only [Rep] at h
  subst h
  obtain ⟨t, rfl⟩ := r
  exact ⟨_, .str x t⟩
 | .dict _, v, u, h, r => by simp [Rep] at h
 | .tuple ts, v, u, h, r => by
  simp only [Rep] at h
  obtain ⟨a, vs, rfl, hs, hr⟩ := h
  cases r
  obtain ⟨its, rv, ⟨o, h1, h2, n, h3⟩, hz⟩ := I.tuple hs
  obtain ⟨as, ra⟩ := z8b I hr rv
  exact ⟨_, .tuple h1 h2 h3 (by simpa using ra)⟩
 | .list ts, v, u, h, r => by
  simp only [Rep] at h
  obtain ⟨a, vs, rfl, fa, hs, hr⟩ := h
  cases r
  obtain ⟨z, its, n, rv, hl, e⟩ := Inv.lstR I hs
  obtain ⟨as, ra⟩ := z8b I hr rv
  exact ⟨_, .list e rfl rfl (by simpa using ra)⟩
theorem z8b {F : Addr -> Prop} {pins : List (Addr × Obj)} {σ : L2.St} {H : Hp} {s : y04} (I : Inv X pins σ H s) : ∀ {ts : List T} {vs : List V} {us : List Value}, RepL X.K F H ts vs -> Vals vs us -> ∃ as, ReadsAll s.heap us ts as
 | [], vs, us, h, r => by
  simp only [RepL] at h
  subst h
  cases r
  exact ⟨_, .nil⟩
 | t :: ts, vs, us, h, r => by
  simp only [RepL] at h
  obtain ⟨v, vr, rfl, h1, h2⟩ := h
  cases r with
  | cons r1 r2 =>
   obtain ⟨as, q1⟩ := zhp I h1 r1
   obtain ⟨bs, q2⟩ := z8b I h2 r2
   exact ⟨_, .cons q1 q2⟩
end
theorem z31 {O F : Addr -> Prop} {pins : List (Addr × Obj)} {σ : L2.St} {H : Hp} {s : y04} (I : Inv X pins σ H s) {t : T} {v : V} {u : Value} (h : RepR X.K O F H t v) (r : RelV v u) : ∃ as, Reads s.heap u t as := by
 rcases h with h | ⟨ts, a, vs, rfl, rfl, ha, h⟩
 ·exact zhp I h r
 ·cases r
  obtain ⟨z, its, n, rv, hl, e⟩ := Inv.lstR I (.inl ha)
  obtain ⟨as, ra⟩ := z8b I h rv
  exact ⟨_, .list e rfl rfl (by simpa using ra)⟩
theorem zck {t : T} (h : okT t = true) : t.canLay0 = true /\ t.depth <= 60 := by
 simp only [okT, y1e, decide_eq_true_eq] at h
 exact h
theorem zo8 {t : List T} (h : okL t = true) : y1j t = true /\ y1h t <= 60 := by
 simp only [okL, y1e, decide_eq_true_eq] at h
 exact h
def zmp (K : y00) (n : Bool) : R2 := fun x y H Q => ∃ (O F : Addr -> Prop) (s t : T), RepR K O F H s x /\ RepR K O F H t y /\ okT s = true /\ okT t = true /\ Q (.bl (if n then !PyData.eqv s t else y28 s t)) H
theorem z13 (hu : X.A.units + 64 < cLine) : OpR X (compareOp .Eq) (zmp X.K false) := by
 intro pins s σ H x y v u Q I rx ry ⟨O, F, d, t, h1, h2, o1, o2, q⟩
 obtain ⟨as, ra⟩ := z31 I h1 rx
 obtain ⟨bs, rb⟩ := z31 I h2 ry
 obtain ⟨c1, l1⟩ := zck o1
 obtain ⟨c2, l2⟩ := zck o2
 refine SeqAt.compareEq_reads ra rb c1 c2 (by have := Nat.min_le_left d.depth t.depth; omega) ?_
 exact ⟨.bl _, H, I, rfl, q⟩
theorem z69 (hu : X.A.units + 64 < cLine) : OpR X (compareOp .NotEq) (zmp X.K true) := by
 intro pins s σ H x y v u Q I rx ry ⟨O, F, d, t, h1, h2, o1, o2, q⟩
 obtain ⟨as, ra⟩ := z31 I h1 rx
 obtain ⟨bs, rb⟩ := z31 I h2 ry
 obtain ⟨c1, l1⟩ := zck o1
 obtain ⟨c2, l2⟩ := zck o2
 refine SeqAt.compareNe_reads ra rb c1 c2 (by have := Nat.min_le_left d.depth t.depth; omega) ?_
 exact ⟨.bl _, H, I, rfl, q⟩
theorem zap {op : CmpOp} {R : R2} {o : T -> T -> Option T} (ho : OpR X (compareOp op) R) (h2 : Op2 X.K o R) (ha : PEr X a f) (hb : PEr X b g) (hm : behindInMarks op b = false := by first | exact zoc _ | rfl) : PEv X (.Compare a [op] [b] pos) (op2 o f g) := z10 (zph ho ha hb hm) (z5x h2)
theorem z0l {op : CmpOp} {R : R2} {o : T -> T -> Option T} (ho : OpR X (compareOp op) R) (h2 : Op2 X.K o R) (ha : PEr X a f) (hb : PEr X b g) (hm : behindInMarks op b = false := by first | exact zoc _ | rfl) : PTt X (.Compare a [op] [b] pos) (tstB (op2 o f g)) :=
 zi8 (zp3 ho ha hb hm) fun σ H Q ⟨F₀, H₀, O, F, ε, b, r, e, k⟩ => by
 simp only [tstB, y01] at e
 obtain ⟨t, et, e⟩ := e
 split at e
 ·cases e
  refine z5x h2 σ H _ ⟨F₀, H₀, O, F, ε, _, r, et, fun v F' H' x q => ?_⟩
  simp only [Rep] at q
  exact ⟨_, q, k F' H' x⟩
 ·cases e
theorem z14 : Op2 X.K oEq (zmp X.K false) := by
  intro O F H x y t vx vy Q d rx ry e k
  unfold oEq at e
  split at e
  next hz =>
   cases e
   rw [y1e] at hz
   exact ⟨O, F, x, y, rx, ry, hz.1, hz.2, k _ F H (Ext.refl d) (by simp [Rep])⟩
  next => cases e
theorem z6a : Op2 X.K oNe (zmp X.K true) := by
  intro O F H x y t vx vy Q d rx ry e k
  unfold oNe at e
  split at e
  next hz =>
   cases e
   rw [y1e] at hz
   exact ⟨O, F, x, y, rx, ry, hz.1, hz.2, k _ F H (Ext.refl d) (by simp [Rep])⟩
  next => cases e
def rInT (K : y00) (n : Bool) : R2 := fun x y H Q => ∃ (O F : Addr -> Prop) (s : T) (ts : List T), RepR K O F H s x /\ (RepR K O F H (.tuple ts) y \/ RepR K O F H (.list ts) y) /\ okT s = true /\ okL ts = true /\ Q (.bl (if n then !hasT s ts else hasT s ts)) H
theorem zcj (hu : X.A.units + 64 < cLine) : OpR X (compareOp .In) (rInT X.K false) := by
 intro pins s σ H x y v u Q I rx ry ⟨O, F, d, ts, h1, h2, o1, o2, q⟩
 obtain ⟨as, ra⟩ := z31 I h1 rx
 obtain ⟨c1, l1⟩ := zck o1
 obtain ⟨c2, l2⟩ := zo8 o2
 have hm := Nat.min_le_left (y1h ts) d.depth
 rcases h2 with h2 | h2
 ·obtain ⟨bs, rb⟩ := z31 I h2 ry
  exact SeqAt.in_tuple_reads rb ra c2 c1 (by omega) ⟨.bl _, H, I, rfl, q⟩
 ·obtain ⟨bs, rb⟩ := z31 I h2 ry
  exact SeqAt.in_list_reads rb ra c2 c1 (by omega) ⟨.bl _, H, I, rfl, q⟩
theorem z3m (hu : X.A.units + 64 < cLine) : OpR X (compareOp .NotIn) (rInT X.K true) := by
 intro pins s σ H x y v u Q I rx ry ⟨O, F, d, ts, h1, h2, o1, o2, q⟩
 obtain ⟨as, ra⟩ := z31 I h1 rx
 obtain ⟨c1, l1⟩ := zck o1
 obtain ⟨c2, l2⟩ := zo8 o2
 have hm := Nat.min_le_left (y1h ts) d.depth
 rcases h2 with h2 | h2
 ·obtain ⟨bs, rb⟩ := z31 I h2 ry
  exact SeqAt.notIn_tuple_reads rb ra c2 c1 (by omega) ⟨.bl _, H, I, rfl, q⟩
 ·obtain ⟨bs, rb⟩ := z31 I h2 ry
  exact SeqAt.notIn_list_reads rb ra c2 c1 (by omega) ⟨.bl _, H, I, rfl, q⟩
theorem z4u {n : Bool} : Op2 X.K (oIn n) (rInT X.K n) := by
 intro O F H x y t vx vy Q d rx ry e k
 unfold oIn at e
 split at e
 ·split at e
  next hz =>
   cases e
   rw [y1e] at hz
   exact ⟨O, F, x, _, rx, .inl ry, hz.1, hz.2, k _ F H (Ext.refl d) (by simp [Rep])⟩
  next => cases e
 ·split at e
  next hz =>
   cases e
   rw [y1e] at hz
   exact ⟨O, F, x, _, rx, .inr ry, hz.1, hz.2, k _ F H (Ext.refl d) (by simp [Rep])⟩
  next => cases e
 ·cases e
theorem zen : Op2 X.K oLt (fun x y H Q => rI0 (fun i j => .bl (decide (i < j))) x y H Q \/ ∃ i j, x = .str i /\ y = .str j /\ Q (.bl (decide (i.cps.toList < j.cps.toList))) H) := by
  intro O F H x y t vx vy Q d rx ry e k
  unfold oLt at e
  split at e
  ·cases e
   rw [rx.int, ry.int]
   exact .inl ⟨_, _, rfl, rfl, k _ F H (Ext.refl d) (by simp [Rep])⟩
  ·cases e
   rw [rx.str, ry.str]
   exact .inr ⟨_, _, rfl, rfl, k _ F H (Ext.refl d) (by simp [Rep, z4i])⟩
  ·cases e
theorem zaq : OpR X (compareOp .LtE) (fun x y H Q => ∃ i j, x = .str i /\ y = .str j /\ Q (.bl (!z4i j i)) H) := by
 intro pins s σ H x y v u Q I rx ry ⟨i, j, e1, e2, q⟩
 subst e1 e2
 obtain ⟨t, rfl⟩ := rx
 obtain ⟨t', rfl⟩ := ry
 exact PySem.P.le_str (zi2 I q (by simp [z4i]))
theorem zem : OpR X (compareOp .GtE) (fun x y H Q => ∃ i j, x = .str i /\ y = .str j /\ Q (.bl (!z4i i j)) H) := by
 intro pins s σ H x y v u Q I rx ry ⟨i, j, e1, e2, q⟩
 subst e1 e2
 obtain ⟨t, rfl⟩ := rx
 obtain ⟨t', rfl⟩ := ry
 exact PySem.P.ge_str (zi2 I q (by simp [z4i]))
theorem z6n : OpR X (compareOp .Gt) (fun x y H Q => ∃ i j, x = .str i /\ y = .str j /\ Q (.bl (z4i j i)) H) := by
 intro pins s σ H x y v u Q I rx ry ⟨i, j, e1, e2, q⟩
 subst e1 e2
 obtain ⟨t, rfl⟩ := rx
 obtain ⟨t', rfl⟩ := ry
 exact PySem.P.gt_str (zi2 I q (by simp [z4i]))
theorem zkt : Op2 X.K oLe (fun x y H Q => rI0 (fun i j => .bl (decide (i <= j))) x y H Q \/ ∃ i j, x = .str i /\ y = .str j /\ Q (.bl (!z4i j i)) H) := by
 intro O F H x y t vx vy Q d rx ry e k
 unfold oLe at e
 split at e
 ·cases e
  rw [rx.int, ry.int]
  exact .inl ⟨_, _, rfl, rfl, k _ F H (Ext.refl d) (by simp [Rep])⟩
 ·cases e
  rw [rx.str, ry.str]
  exact .inr ⟨_, _, rfl, rfl, k _ F H (Ext.refl d) (by simp [Rep])⟩
 ·cases e
theorem zeo : Op2 X.K oGt (fun x y H Q => rI0 (fun i j => .bl (decide (j < i))) x y H Q \/ ∃ i j, x = .str i /\ y = .str j /\ Q (.bl (z4i j i)) H) := by
 intro O F H x y t vx vy Q d rx ry e k
 unfold oGt at e
 split at e
 ·cases e
  rw [rx.int, ry.int]
  exact .inl ⟨_, _, rfl, rfl, k _ F H (Ext.refl d) (by simp [Rep])⟩
 ·cases e
  rw [rx.str, ry.str]
  exact .inr ⟨_, _, rfl, rfl, k _ F H (Ext.refl d) (by simp [Rep])⟩
 ·cases e
theorem zo7 : Op2 X.K oGe (fun x y H Q => rI0 (fun i j => .bl (decide (j <= i))) x y H Q \/ ∃ i j, x = .str i /\ y = .str j /\ Q (.bl (!z4i i j)) H) := by
 intro O F H x y t vx vy Q d rx ry e k
 unfold oGe at e
 split at e
 ·cases e
  rw [rx.int, ry.int]
  exact .inl ⟨_, _, rfl, rfl, k _ F H (Ext.refl d) (by simp [Rep])⟩
 ·cases e
  rw [rx.str, ry.str]
  exact .inr ⟨_, _, rfl, rfl, k _ F H (Ext.refl d) (by simp [Rep])⟩
 ·cases e
theorem zqz {j pos'} (ha : PEr X a f) : PEv X (.Compare a [.IsNot] [.Constant .none j pos'] pos) (op1 z7u f) := z10 (zrh (zpj ha)) fun σ H Q ⟨F₀, H₀, O, F, ε, t, r, e, k⟩ => by
 simp only [op1, y01] at e
 obtain ⟨x, ex, e⟩ := e
 cases e
 refine ⟨F₀, H₀, O, F, ε, x, r, ex, fun v F1 H1 x1 rx => k _ F1 H1 x1 ?_⟩
 cases x with
 | none => rw [rx.non]; simp [Rep]
 | bool b => rw [rx.bl]; simp [Rep]
 | int b => rw [rx.int]; simp [Rep]
 | str b => rw [rx.str]; simp [Rep]
 | tuple b => obtain ⟨_, _, e, _⟩ := rx.tup; rw [e]; simp [Rep]
 | list b => obtain ⟨_, _, e, _⟩ := rx.lst; rw [e]; simp [Rep]
 | dict b => rcases rx with rx | ⟨_, _, _, z, _⟩; simp [Rep] at rx; cases z
theorem zst (ha : PEr X a f) : PEv X (.UnaryOp .USub a pos) (op1 oNeg f) := z10 (zsz zqj ha) fun σ H Q ⟨F₀, H₀, O, F, ε, t, r, e, k⟩ => by
 simp only [op1, y01] at e
 obtain ⟨x, ex, e⟩ := e
 unfold oNeg at e
 split at e
 ·cases e
  exact ⟨F₀, H₀, O, F, ε, _, r, ex, fun v F1 H1 x1 rx => ⟨_, rx.int, k _ F1 H1 x1 (by simp [Rep])⟩⟩
 ·cases e
def OpN (K : y00) (o : List T -> Option T) (R : List V -> Hp -> VK -> Prop) : Prop :=
 ∀ (O F : Addr -> Prop) (H : Hp) (ts : List T) (t : T) (vs : List V) (Q : VK), Dom F H -> Paired (RepR K O F H) ts vs -> o ts = some t ->
  (∀ v F' H', Ext F H F' H' -> Rep K F' H' t v -> Q v H') -> R vs H Q
theorem zar {o : List T -> Option T} {R : List V -> Hp -> VK -> Prop} (hR : OpN X.K o R) : ∀ σ H Q, tV X.K (opN o fs) σ H Q -> tCB R (tAR X.K fs) σ H Q := by
 rintro σ H Q ⟨F₀, H₀, O, F, ε, t, r, e, k⟩
 simp only [opN, y01] at e
 obtain ⟨ts, et, eo⟩ := e
 exact ⟨F₀, H₀, O, F, ε, ts, r, et, fun vs F1 H1 x1 q => hR O F1 H1 ts t vs Q x1.dom q eo fun v F' H' x3 q3 => k v F' H' (x1.trans x3) q3⟩
theorem zmq (hm : X.mg "len" = none) (ha : PAr X (e :: es) fs) (hg : Gl X "len" := by rfl) (he : y0a (e :: es) X.env = (false, eval e X.env) :: y0a es X.env := by rfl) (hpl : (backTo pos (y0a es X.env)).any (·.1) = false := by rfl) :
  PEv X (.Call (.Name "len" p) (e :: es) [] pos) (opN oLen fs) := z10 (za4 (zfr.or zfq) hg hm PySem.boot_len ha (he := he) (hpl := hpl)) (zar (by
 intro O F H ts t vs Q d q e k
 unfold oLen at e
 split at e
 ·cases e
  cases q with
  | cons q1 q2 =>
   cases q2
   obtain ⟨a, ws, rfl, hs, hr⟩ := q1.tup
   exact .inl ⟨a, ws, rfl, .inr hs, k _ F H (Ext.refl d) (by simp [Rep, hr.length])⟩
 ·cases e
  cases q with
  | cons q1 q2 =>
   cases q2
   obtain ⟨a, ws, rfl, hs, hr⟩ := q1.lst
   exact .inl ⟨a, ws, rfl, .inl (.inl hs), k _ F H (Ext.refl d) (by simp [Rep, hr.length])⟩
 ·split at e
  next hz =>
   cases e
   cases q with
   | cons q1 q2 =>
    cases q2
    exact .inr ⟨_, by rw [q1.str], by rw [z86]; exact hz, k _ F H (Ext.refl d) (by simp [Rep])⟩
  next => cases e
 ·cases e))
theorem zsu (hm : X.mg "max" = none) (ha : PAr X (e :: es) fs) (hc : X.calm = true := by rfl) (hg : Gl X "max" := by rfl) (he : y0a (e :: es) X.env = (false, eval e X.env) :: y0a es X.env := by rfl) (hpl : (backTo pos (y0a es X.env)).any (·.1) = false := by rfl) :
  PEv X (.Call (.Name "max" p) (e :: es) [] pos) (opN oMax fs) := z10 (za4 (zlv hc) hg hm (by decide +kernel) ha (he := he) (hpl := hpl)) (zar (by
 intro O F H ts t vs Q d q e k
 unfold oMax at e
 split at e
 ·cases e
  cases q with
  | cons q1 q2 =>
   cases q2 with
   | cons q2 q3 =>
    cases q3
    exact ⟨_, _, by rw [q1.int, q2.int], k _ F H (Ext.refl d) (by simp [Rep])⟩
 ·cases e))
theorem z7t (hm : X.mg "tuple" = none) (ha : PAr X (e :: es) fs) (hg : Gl X "tuple" := by rfl) (he : y0a (e :: es) X.env = (false, eval e X.env) :: y0a es X.env := by rfl) (hpl : (backTo pos (y0a es X.env)).any (·.1) = false := by rfl) :
  PEv X (.Call (.Name "tuple" p) (e :: es) [] pos) (opN z3n fs) := z10 (z8f zdx hg hm (by decide +kernel) ha (he := he) (hpl := hpl)) (zar (by
 intro O F H ts t vs Q d q e k
 unfold z3n at e
 split at e
 ·cases e
  cases q with
  | cons q1 q2 =>
   cases q2
   obtain ⟨a, ws, rfl, hs, hr⟩ := q1.tup
   refine ⟨a, ws, rfl, .inr ⟨hs, k _ F H (Ext.refl d) ?_⟩⟩
   simp only [Rep]
   exact ⟨a, ws, rfl, hs, hr⟩
 ·cases e
  cases q with
  | cons q1 q2 =>
   cases q2
   obtain ⟨a, ws, rfl, hs, hr⟩ := q1.lst
   refine ⟨a, ws, rfl, .inl ⟨.inl hs, fun l hl => ?_⟩⟩
   have x1 := Ext.laid (o := .tup ws) d hl
   refine k _ F _ x1 ?_
   simp only [Rep]
   exact ⟨l, ws, rfl, SqT.of z0d, hr.ext x1⟩
 ·cases e))
theorem zny (h : PEr X e f) (he : ∀ whole, isTrue e X.env whole = (do let v <- whole; standAt e.pos; holding [v] (truthy v)) := by intro _; rfl) : PTt X e (tstB f) := zi8 (zr7 h he) fun σ H Q ⟨F₀, H₀, O, F, ε, b, r, e, k⟩ => by
 simp only [tstB, y01] at e
 obtain ⟨t, et, e⟩ := e
 split at e
 ·cases e
  exact ⟨F₀, H₀, O, F, ε, _, r, et, fun v F1 H1 x1 rx => ⟨_, rx.bl, k F1 H1 x1⟩⟩
 ·cases e
theorem zqm {j pos'} (ha : PEr X a f) : PTt X (.Compare a [.Is] [.Constant .none j pos'] pos) (tstB (op1 oIsN f)) := zi8 (zr8 (zrk ha)) fun σ H Q ⟨F₀, H₀, O, F, ε, t, r, e, k⟩ => by
 simp only [tstB, op1, oIsN, y01] at e
 obtain ⟨_, ⟨x, ex, e1⟩, e⟩ := e
 cases e1
 cases e
 refine ⟨F₀, H₀, O, F, ε, x, r, ex, fun v F1 H1 x1 rx => ⟨_, ?_, k F1 H1 x1⟩⟩
 cases x with
 | none => rw [rx.non]; simp
 | bool b => rw [rx.bl]; simp
 | int b => rw [rx.int]; simp
 | str b => rw [rx.str]; simp
 | tuple b => obtain ⟨_, _, e, _⟩ := rx.tup; rw [e]; simp
 | list b => obtain ⟨_, _, e, _⟩ := rx.lst; rw [e]; simp
 | dict b => rcases rx with rx | ⟨_, _, _, z, _⟩; simp [Rep] at rx; cases z
theorem zql (h : PEr X e f) (he : ∀ whole, isTrue e X.env whole = (do let v <- whole; standAt e.pos; holding [v] (truthy v)) := by intro _; rfl) : PTt X e (tstL f) := zi8 (zmr h he) fun σ H Q ⟨F₀, H₀, O, F, ε, b, r, e, k⟩ => by
 simp only [tstL, y01] at e
 obtain ⟨t, et, e⟩ := e
 have emp : ∀ {ts : List T} {vs : List V} {F1 : Addr -> Prop} {H1 : Hp}, RepL X.K F1 H1 ts vs -> ts.isEmpty = vs.isEmpty := fun {ts vs F1 H1} q => by
  have := q.length
  cases ts <;> cases vs <;> simp_all
 split at e
 ·cases e
  refine ⟨F₀, H₀, O, F, ε, _, r, et, fun v F1 H1 x1 rx => ?_⟩
  obtain ⟨a, vs, rfl, hs, hr⟩ := rx.lst
  exact ⟨_, .inl ⟨vs, .inl hs, by rw [emp hr]⟩, k F1 H1 x1⟩
 ·cases e
  refine ⟨F₀, H₀, O, F, ε, _, r, et, fun v F1 H1 x1 rx => ?_⟩
  obtain ⟨a, vs, rfl, hs, hr⟩ := rx.tup
  exact ⟨_, .inr (.inl ⟨vs, hs, by rw [emp hr]⟩), k F1 H1 x1⟩
 ·cases e
theorem z9p (h : PTt X e ft) : PWt X (.BoolOp .And [e] pos) ft := zp2 h
theorem zbu (h : PTt X e ft) : PWt X (.BoolOp .Or [e] pos) ft := zr3 h
theorem ze3 (h : PTt X a ft) (h2 : PWt X (.BoolOp .And (b :: es) pos) gt) : PWt X (.BoolOp .And (a :: b :: es) pos) (andT ft gt) := zol (zr4 h h2) fun σ H Q ⟨F₀, H₀, O, F, ε, b, r, e, k⟩ => by
 simp only [andT, y01] at e
 obtain ⟨c, ec, e⟩ := e
 refine ⟨F₀, H₀, O, F, ε, c, r, ec, fun F1 H1 x1 => ?_⟩
 cases c with
 | true => exact iteT ⟨F₀, H₀, O, F1, ε, b, r.ext x1, by simpa using e, fun F2 H2 x2 => k F2 H2 (x1.trans x2)⟩
 | false =>
  have : b = false := by simpa using e.symm
  subst this
  exact iteF (k F1 H1 x1)
theorem w_or (h : PTt X a ft) (h2 : PWt X (.BoolOp .Or (b :: es) pos) gt) : PWt X (.BoolOp .Or (a :: b :: es) pos) (orT ft gt) := zol (zsw h h2) fun σ H Q ⟨F₀, H₀, O, F, ε, b, r, e, k⟩ => by
 simp only [orT, y01] at e
 obtain ⟨c, ec, e⟩ := e
 refine ⟨F₀, H₀, O, F, ε, c, r, ec, fun F1 H1 x1 => ?_⟩
 cases c with
 | true =>
  have : b = true := by simpa using e.symm
  subst this
  exact iteT (k F1 H1 x1)
 | false => exact iteF ⟨F₀, H₀, O, F1, ε, b, r.ext x1, by simpa using e, fun F2 H2 x2 => k F2 H2 (x1.trans x2)⟩
theorem w_t (h : PWt X e ft) : PTt X e ft := h.pt
end
end D
end
section
namespace D
open PySem PySem.Spec PyProof.Rows L2
variable [Tbl]
def spT (K : y00) (n : Nat) (d : List T -> Option T) : Sp := fun vs H Q _ => vs.length = n /\ ∃ F ts t, Dom F H /\ RepL K F H ts vs /\ d ts = some t /\ ∀ v F' H', Ext F H F' H' -> Rep K F' H' t v -> Q v H'
section
variable {X : Cx} {k n : Nat} {fa : Addr} {fd : y0b} {ps : List Str} {d : List T -> Option T} {x : Str} {p pos : Pos} {e : Expr} {es : List Expr} {fs : List Fe}
theorem zr2 (F : FnOk X.prog X.w X.K X.mg X.base CX0 k fa fd ps (spT X.K n d)) (hr : Room k X.A) (hg : Gl X x) (hm : X.mg x = some (.ref fa)) (hk : y08 X.K (.ref fa) = true) (hb : z15 X.K fd ps [])
  (ha : PAv X (e :: es) fs) (hn : fs.length = n := by rfl) (hdb : (x == ("__debug__" : Str)) = false := by decide) (he : y0a (e :: es) X.env = (false, eval e X.env) :: y0a es X.env := by rfl) (hpl : (backTo pos (y0a es X.env)).any (·.1) = false := by rfl) :
  PEv X (.Call (.Name x p) (e :: es) [] pos) (opN d fs) := z10 (zkq F hr hg hm hk hb .nil zgi ha hdb he hpl) fun σ H Q ⟨F₀, H₀, O, F, ε, t, r, e, k⟩ => by
 simp only [opN, y01] at e
 obtain ⟨ts, et, ed⟩ := e
 have hl : ∀ (gs : List Fe) (us : List T), args gs ε = some us -> us.length = gs.length := by
  intro gs
  induction gs with
  | nil => intro us e; cases e; rfl
  | cons g gs ih =>
   intro us e
   simp only [args, y01, y07] at e
   obtain ⟨t, _, vs, ev, rfl⟩ := e
   simp [ih vs ev]
 refine ⟨F₀, H₀, O, F, ε, ts, r, et, fun vs F1 H1 x1 q => ⟨?_, F1, ts, t, x1.dom, by simpa using q, ed, fun v F' H' x2 q2 => k v F' H' (x1.trans x2) q2⟩⟩
 rw [y26, <- q.length, hl fs ts et, hn]
end
section
variable {P : y0r} {w : World} {K : y00} {mg : Str -> Option Value} {base : Heap}
theorem zch {F : Addr -> Prop} {H : Hp} {ts : List T} {vs : List V} {N : List Str} (dom : Dom F H) (q : RepL K F H ts vs) (n : Nat) :
  RelE K F ⟨H, 0⟩ (fun a => H a = none) F H ((ts.map fun t => some (.imm t)) ++ y0h n none) (vs.map some ++ y0h n none) := by
 have imm : ∀ (i : Nat) (s : Sl), ((ts.map fun t => some (Sl.imm t)) ++ y0h n none)[i]? = some (some s) -> ∃ t, s = .imm t /\ ts[i]? = some t := by
  intro i s e
  by_cases hi : i < ts.length
  ·rw [y1s (by simpa using hi), y17] at e
   rw [y0w hi] at e ⊢
   simp at e
   exact ⟨_, e.symm, rfl⟩
  ·rw [y1p (by simpa using hi), List.getElem?_replicate] at e
   split at e <;> cases e
 refine ⟨by simp [q.length], fun i s e => ?_, fun i j s u v w hij e1 e2 o1 => ?_, Ext.refl dom, fun _ h => h, fun _ h => h⟩
 ·obtain ⟨t, rfl, ht⟩ := imm i s e
  obtain ⟨v, hv, rv⟩ := q.get ht
  refine ⟨v, ?_, rv⟩
  rw [y1s (by have := (y0l.mp hv).1; simpa using this), y17, hv]
  rfl
 ·obtain ⟨t, rfl, _⟩ := imm i s e1
  cases o1
theorem zoj {x qual : Str} {st : Stmt} {f : Addr} {fd : y0b} {N ps : List Str} {k : Nat} {b : Fs} (F : Fun K x qual st f fd) (S : FnScope N ps (z01 st))
  (hb : ∀ (cdv : Value) (A : Around) (outer : List Env) (s : y04) (H : Hp) (E : XK), Room k (A.deeper (envOfC qual (z01 st) s.heap.objs.size f cdv)) ->
   PBt (cxOf CX0 P w K mg base N qual (z01 st) f cdv A outer s H E).nox (z0a st) b) :
  FnOk P w K mg base CX0 (k + 1) f fd ps (spT K ps.length (runF b N.length)) := by
 refine F.ok S (fun vs H Q E h => h.1) fun cdv A outer s H vs Q E hr h => ⟨_, hb cdv A outer s H E hr, ?_⟩
 obtain ⟨hl, F, ts, t, dom, q, e, kq⟩ := h
 simp only [runF, y01] at e
 obtain ⟨o, eo, e⟩ := e
 refine ⟨F, ⟨H, 0⟩, fun a => H a = none, F, _, o, ?_, eo, ?_⟩
 ·have := zch (N := N) dom q (N.length - ts.length)
  unfold L2.start
  rw [q.length] at this ⊢
  exact this
 ·cases o with
  | rt t' =>
   cases e
   exact fun v F' H' x q => kq v F' H' x q
  | nx ε' =>
   cases e
   exact fun σ' F' H' _ r => kq _ F' H' r.ent (by simp [Rep])
  | bk _ => cases e
  | ct _ => cases e
  | rtm _ _ => cases e
  | rto _ => cases e
end
end D
end
section
namespace D
open PySem PySem.Spec PyProof.Rows L2
variable [Tbl]
def clos (env : Env) : List (Str × NameKind) -> List (Str × Addr) -> List (Str × Addr)
 | [], cs => cs
 | x :: r, cs => if x.2 == .free then clos env r ((x.1, (env.cells.lookup x.1).getD 0) :: cs) else clos env r cs
theorem zdw {scope : Scope} {env : Env} (h : ∀ x ∈ scope.names, x.2 = .free -> ∃ c, env.cells.lookup x.1 = some c) : closureFor scope env = pure (clos env scope.names []) := by
 have go : ∀ (l : List (Str × NameKind)) (cs : List (Str × Addr)), (∀ x ∈ l, x.2 = .free -> ∃ c, env.cells.lookup x.1 = some c) ->
   (forIn l cs (fun x r => (if (x.2 == NameKind.free) = true then do let a <- cellOf env x.1; pure (ForInStep.yield ((x.1, a) :: r)) else pure (ForInStep.yield r)) : _ -> _ -> Sem (ForInStep (List (Str × Addr)))) : Sem (List (Str × Addr))) = pure (clos env l cs) := by
  intro l
  induction l with
  | nil => intro cs _; rfl
  | cons x r ih =>
   intro cs hl
   rw [List.forIn_cons]
   have hr := fun y hy => hl y (y05 _ hy)
   by_cases k : x.2 = .free
   ·obtain ⟨c, hc⟩ := hl x y0f k
    have e1 : (x.2 == NameKind.free) = true := by simp [k]
    simp only [e1, if_true, cellOf, hc, clos, Option.getD_some]
    exact ih _ hr
   ·have e1 : (x.2 == NameKind.free) = false := by simpa using k
    simp only [e1, y20, if_false, clos]
    exact ih _ hr
 have := go scope.names [] h
 simp only [closureFor]
 exact congrArg (fun m => m >>= fun cs => pure cs) this
theorem z8p {env : Env} : ∀ {l : List (Str × NameKind)} {cs : List (Str × Addr)}, (∀ x ∈ l, x.2 = .free -> ∃ c, env.cells.lookup x.1 = some c) -> (∀ x c, cs.lookup x = some c -> env.cells.lookup x = some c) -> ∀ x c, (clos env l cs).lookup x = some c -> env.cells.lookup x = some c
 | [], cs, _, h, x, c, e => h x c e
 | y :: r, cs, hl, h, x, c, e => by
  unfold clos at e
  have hr := fun z hz => hl z (y05 _ hz)
  split at e
  next k =>
   refine z8p hr (fun x c e => ?_) x c e
   rw [y1i] at e
   split at e
   next hb =>
    obtain ⟨c', hc⟩ := hl y y0f (by simpa using k)
    have : x = y.1 := by simpa using hb
    subst this
    rw [hc] at e ⊢
    simpa using e
   next => exact h x c e
  next => exact z8p hr h x c e
theorem zad {env : Env} : ∀ {l : List (Str × NameKind)} {cs : List (Str × Addr)} {x : Str}, ((∃ y ∈ l, y.2 = .free /\ y.1 = x) \/ ∃ c, cs.lookup x = some c) -> ∃ c, (clos env l cs).lookup x = some c
 | [], cs, x, h => by
  rcases h with ⟨y, hy, _⟩ | h
  ·cases hy
  ·exact h
 | y :: r, cs, x, h => by
  unfold clos
  split
  next k =>
   refine zad ?_
   rcases h with ⟨z, hz, k', e⟩ | ⟨c, h⟩
   ·rcases y09.mp hz with rfl | hz
    ·refine .inr ?_
     subst e
     rw [y1i]
     simp
    ·exact .inl ⟨z, hz, k', e⟩
   ·refine .inr ?_
    rw [y1i]
    split
    ·exact ⟨_, rfl⟩
    ·exact ⟨c, h⟩
  next k =>
   refine zad ?_
   rcases h with ⟨z, hz, k', e⟩ | h
   ·rcases y09.mp hz with rfl | hz
    ·exact absurd (by simpa using k') k
    ·exact .inl ⟨z, hz, k', e⟩
   ·exact .inr h
def z2x (X : Cx) (N' : List Str) (scope : Scope) (cl : List (Str × Addr)) (C : Addr) (s₀ : y04) (H₀ : Hp) (fp : List Addr) (pn : List (Addr × Obj)) : Cx where
 prog := X.prog
 w := X.w
 K := X.K
 mg := X.mg
 base := X.base
 A := X.A
 N := N'
 s₀ := s₀
 H₀ := H₀
 env := compEnvC scope cl C X.env
 outer := X.stack
 stack := X.stack
 ex := fp
 fn := fun _ => false
 calm := X.calm
 pn := pn
 xe := fun _ _ => False
def PTs (X : Cx) (ifs : List Expr) (cc : Ft) : Prop := ∀ (pins : List (Addr × Obj)) (s : y04) (σ : L2.St) (H : Hp) (Q : Bool -> Hp -> Prop), L2.Inv X pins σ H s -> tT X.K cc σ H Q ->
 y0v (model X.prog X.w) X.A (forIn ifs true fun c r => if r = true then do let ok <- isTrue c X.env (eval c X.env); pure (ForInStep.yield ok) else pure (ForInStep.yield r)) (TP X pins σ Q) X.xe s
theorem z82 {X : Cx} : PTs X [] (cstT true) := fun pins s σ H Q I ⟨F₀, H₀, O, F, ε, b, r, e, k⟩ => by
 cases e
 exact wpAny_tests_nil ⟨H, I, k F H (Ext.refl r.dom)⟩
theorem zhi {X : Cx} {c : Expr} {cc : Ft} (h : PTt X c cc) : PTs X [c] cc := fun pins s σ H Q I q => wpAny_tests_one (h pins s σ H Q I q)
section
variable {prog : y0r} {w : World} {A : Around} {R : Result -> y04 -> Prop} {s : y04}
theorem zfl {elt target iter : Expr} {ifs : List Expr} {scope : Scope} {pos : Pos} {it acc : Value} {env : Env} (I : Nat -> y04 -> Prop)
  (turn : ∀ n s, I n s -> y0v (model prog w) A (pyNext it) (fun r s₁ => match r with
   | none => R (.ok .next) s₁
   | some v => y0v (model prog w) A (letOwnedTupleGo target it v) (fun _ s₁' => y0v (model prog w) A (assign target env v) (fun _ s₂ =>
     y0v (model prog w) A (forIn ifs true fun c r => if r = true then do let ok <- isTrue c env (eval c env); pure (ForInStep.yield ok) else pure (ForInStep.yield r)) (fun ok s₃ =>
      if ok = true then y0v (model prog w) A (eval elt env) (fun x s₄ =>
       y0v (model prog w) A (call (.builtin "list.append") [acc, x]) (fun _ s₅ => ∃ m, m < n /\ I m s₅) (fun _ _ => False) s₄) (fun _ _ => False) s₃
      else ∃ m, m < n /\ I m s₃) (fun _ _ => False) s₂) (fun _ _ => False) s₁') (fun _ _ => False) s₁) (fun _ _ => False) s)
  (n : Nat) (h : I n s) : codeAny (model prog w) A (.compLoop (.ListComp elt [⟨target, iter, ifs, 0⟩] scope pos) 0 it acc env) R s := by
 refine codeAny_loop rfl I (fun n s hI => ?_) n h
 show y0v _ A ((compTurn (.ListComp elt [⟨target, iter, ifs, 0⟩] scope pos) 0 it acc env).onRaise (fun x => do noteFrame x env; theTreesLotGoes x)) _ _ s
 refine wpAny_noted ?_
 rw [compTurn_list]
 refine y02 (wpAny_standAt (y02 (y1g (turn n s hI) (fun r s₁ h₁ => ?_) fun _ _ h' => h'.elim)))
 cases r with
 | none => exact y06 h₁
 | some v =>
  refine y02 (y1g h₁ (fun _ s₁' h₁' => ?_) fun _ _ h' => h'.elim)
  refine y02 (y1g h₁' (fun _ s₂ h₂ => y02 (y1g h₂ (fun ok s₃ h₃ => ?_) fun _ _ h' => h'.elim)) fun _ _ h' => h'.elim)
  cases ok with
  | false => exact y06 ⟨rfl, h₃⟩
  | true =>
   exact y02 (y02 (y1g h₃ (fun x s₄ h₄ => y02 (y1g h₄ (fun _ s₅ h₅ => y06 (y06 ⟨rfl, h₅⟩)) fun _ _ h' => h'.elim)) fun _ _ h' => h'.elim))
end
end D
end
section
namespace D
open PySem PySem.Spec PyProof.Rows L2
variable [Tbl]
theorem z7l {env : Env} {k : NameKind} : ∀ {names : List (Str × NameKind)} {x : Str}, names.lookup x = some k -> ∃ k', (names.map fun (n, k) => if (k == NameKind.free && env.scope.kind == .function && env.kindOf n == some .cell) then (n, NameKind.cell) else (n, k)).lookup x = some k' /\ (k' = k \/ (k = .free /\ k' = .cell))
  | [], x, h => by simp at h
  | (n, j) :: r, x, h => by
    have ih := @z7l env k r x
    show ∃ k', y1n x ((if (j == NameKind.free && env.scope.kind == .function && env.kindOf n == some .cell) = true then (n, NameKind.cell) else (n, j)) :: _) = some k' /\ _
    cases hx : x == n with
    | true =>
      simp only [y1i, hx] at h
      cases h
      by_cases hc : (k == NameKind.free && env.scope.kind == .function && env.kindOf n == some .cell) = true
      · rw [if_pos hc]
        refine ⟨.cell, by simp [y1i, hx], .inr ⟨?_, rfl⟩⟩
        simp only [y1e] at hc
        simpa using hc.1.1
      · rw [if_neg hc]
        exact ⟨k, by simp [y1i, hx], .inl rfl⟩
    | false =>
      simp only [y1i, hx] at h
      obtain ⟨k', h1, h2⟩ := ih h
      refine ⟨k', ?_, h2⟩
      by_cases hc : (j == NameKind.free && env.scope.kind == .function && env.kindOf n == some .cell) = true
      · rw [if_pos hc]; simp only [y1i, hx]; exact h1
      · rw [if_neg hc]; simp only [y1i, hx]; exact h1
theorem zcn {names : List (Str × NameKind)} {x : Str} {k : NameKind} (h : names.lookup x = some k) : ∃ y ∈ names, y.2 = k /\ y.1 = x := by
 induction names with
 | nil => simp at h
 | cons y r ih =>
  rw [y1i] at h
  split at h
  next hb =>
   cases h
   exact ⟨y, y0f, rfl, by simpa using (beq_iff_eq.mp hb).symm⟩
  next =>
   obtain ⟨z, hz, h1, h2⟩ := ih h
   exact ⟨z, y05 _ hz, h1, h2⟩
theorem zeg {scope : Scope} {env : Env} (hcell : ∀ y ∈ scope.names, y.2 ≠ .cell) {x : Str} (h : (relabel scope env).names.lookup x = some .cell \/ (relabel scope env).names.lookup x = some .free) : ∃ y ∈ scope.names, y.2 = .free /\ y.1 = x := by
 have go : ∀ {k : NameKind}, (relabel scope env).names.lookup x = some k -> (k = .cell \/ k = .free) -> ∃ y ∈ scope.names, y.2 = .free /\ y.1 = x := fun {k} e hk => by
  obtain ⟨y, hy, h1, h2⟩ := zcn e
  obtain ⟨⟨n, j⟩, hz, e2⟩ := y0n.mp (show y ∈ scope.names.map _ from hy)
  by_cases hc : (j == NameKind.free && env.scope.kind == .function && env.kindOf n == some .cell) = true
  ·have e3 : (n, NameKind.cell) = y := by
    have e4 : (if (j == NameKind.free && env.scope.kind == .function && env.kindOf n == some .cell) = true then (n, NameKind.cell) else (n, j)) = y := e2
    rwa [if_pos hc] at e4
   subst e3
   simp only [y1e] at hc
   exact ⟨(n, j), hz, by simpa using hc.1.1, h2⟩
  ·have e3 : (n, j) = y := by
    have e4 : (if (j == NameKind.free && env.scope.kind == .function && env.kindOf n == some .cell) = true then (n, NameKind.cell) else (n, j)) = y := e2
    rwa [if_neg hc] at e4
   subst e3
   rcases hk with rfl | rfl
   ·exact absurd h1 (hcell _ hz)
   ·exact ⟨(n, j), hz, h1, h2⟩
 rcases h with h | h
 ·exact go h (.inl rfl)
 ·exact go h (.inr rfl)
theorem RelE.other {K : y00} {F₀ O F : Addr -> Prop} {E : En} {H : Hp} {ε : Ev} {σ : L2.St} {a : Addr} {xs ys : List V} (r : RelE K F₀ E O F H ε σ) (hn : ¬ F a) (ho : ¬ O a) (h0 : E.h a = none) (ha : H a = some (.lst xs)) :
  Kp K F H F (upd H a (.lst ys)) /\ RelE K F₀ E O F (upd H a (.lst ys)) ε σ := by
 have hm : HoM (.lst xs) := .inl ⟨_, rfl⟩
 have kp : Kp K F H F (upd H a (.lst ys)) := zl3 hn ha hm
 have keep : ∀ (u : Sl) (w : V), z22 K E O F H u w -> z22 K E O F (upd H a (.lst ys)) u w /\ fpS (upd H a (.lst ys)) u w = fpS H u w := by
  intro u w ru
  refine ru.keep kp (fun b hb => z0j ?_) (fun _ _ f => f) fun _ _ o => o
  rintro rfl
  cases ou : u.isOwn with
  | true => exact ho ((ru.held hb).2.1 ou)
  | false => exact (ru.held hb).2.2 ou h0
 refine ⟨kp, ⟨r.len, fun j u e => ?_, fun i j s u v w hij e1 e2 o1 o2 h1 h2 => ?_, zi3 r.ent h0 hn ha hm, r.o0, fun b e => r.fr b ?_⟩⟩
 ·obtain ⟨v, h1, h2⟩ := r.val j u e
  exact ⟨v, h1, (keep u v h2).1⟩
 ·obtain ⟨v', h1', r1⟩ := r.val i s e1
  obtain ⟨w', h2', r2⟩ := r.val j u e2
  rw [h1] at h1'
  rw [h2] at h2'
  cases h1'
  cases h2'
  rw [(keep s v r1).2, (keep u w r2).2]
  exact r.ne i j s u v w hij e1 e2 o1 o2 h1 h2
 ·by_cases nb : b = a
  ·subst nb
   rw [z0d] at e
   cases e
  ·rwa [z0j nb] at e
def znk (n : Nat) (caps : List Nat) (σ : L2.St) : L2.St := y0h n none ++ caps.map fun i => (σ[i]?).join
theorem join_some {α : Type} {o : Option (Option α)} {x : α} (h : o.join = some x) : o = some (some x) := by
 cases o with
 | none => cases h
 | some o => exact congrArg some h
theorem z9h {α : Type} {n : Nat} {caps : List Nat} {l : List (Option α)} {i : Nat} {x : α} (h : (y0h n none ++ caps.map fun i => (l[i]?).join)[i]? = some (some x)) : ∃ j, n <= i /\ caps[i - n]? = some j /\ l[j]? = some (some x) := by
 by_cases hi : i < n
 ·rw [y1s (by simpa using hi), List.getElem?_replicate] at h
  rw [if_pos hi] at h
  cases h
 ·rw [y1p (by simpa using hi), List.length_replicate, y17] at h
  cases e : caps[i - n]? with
  | none =>
   rw [e] at h
   cases h
  | some j =>
   rw [e] at h
   exact ⟨j, by omega, rfl, join_some (Option.some.inj h)⟩
theorem zq3 {α : Type} {n : Nat} {caps : List Nat} {l : List (Option α)} {i j : Nat} {x : α} (hi : n <= i) (hc : caps[i - n]? = some j) (h : l[j]? = some (some x)) : (y0h n none ++ caps.map fun i => (l[i]?).join)[i]? = some (some x) := by
 rw [y1p (by simpa using hi), List.length_replicate, y17, hc]
 simp [h]
theorem RelE.cap {K : y00} {F₀ O F : Addr -> Prop} {E : En} {H : Hp} {ε : Ev} {σ : L2.St} {D : Addr} (r : RelE K F₀ E O F H ε σ) (n : Nat) {caps : List Nat} (nd : caps.Nodup) (hD : H D = none) :
  RelE K F₀ E (fun a => O a /\ a ≠ D) F (upd H D (.lst [])) (z34 n caps ε) (znk n caps σ) := by
 have x := Ext.laid (o := .lst []) r.dom hD
 have keep : ∀ (u : Sl) (w : V), z22 K E O F H u w -> z22 K E (fun a => O a /\ a ≠ D) F (upd H D (.lst [])) u w /\ fpS (upd H D (.lst [])) u w = fpS H u w := by
  intro u w ru
  have nb : ∀ b ∈ fpS H u w, b ≠ D := fun b hb z => by
   obtain ⟨o, e, _⟩ := ru.at hb
   rw [z, hD] at e
   cases e
  exact ru.keep x.kp (fun b hb => z0j (nb b hb)) (fun _ _ f => f) fun b hb o => ⟨o, nb b hb⟩
 refine ⟨by simp [z34, znk], fun i s e => ?_, fun i j s u v w hij e1 e2 o1 o2 h1 h2 => ?_, r.ent.trans x, fun a h => r.o0 a h.1, fun a h => ?_⟩
 ·obtain ⟨j, hn, hc, e'⟩ := z9h e
  obtain ⟨v, h1, h2⟩ := r.val j s e'
  exact ⟨v, zq3 hn hc h1, (keep s v h2).1⟩
 ·obtain ⟨i', hi, ci, e1'⟩ := z9h e1
  obtain ⟨j', hj, cj, e2'⟩ := z9h e2
  obtain ⟨i2, _, ci2, h1'⟩ := z9h (l := σ) h1
  obtain ⟨j2, _, cj2, h2'⟩ := z9h (l := σ) h2
  rw [ci] at ci2
  rw [cj] at cj2
  cases ci2
  cases cj2
  obtain ⟨v', q1, r1⟩ := r.val i' s e1'
  obtain ⟨w', q2, r2⟩ := r.val j' u e2'
  rw [h1'] at q1
  rw [h2'] at q2
  cases q1
  cases q2
  rw [(keep s v r1).2, (keep u w r2).2]
  refine r.ne i' j' s u v w (fun z => ?_) e1' e2' o1 o2 h1' h2'
  subst z
  obtain ⟨l1, m1⟩ := y0l.mp ci
  obtain ⟨l2, m2⟩ := y0l.mp cj
  have ne : i - n ≠ j - n := by omega
  rcases Nat.lt_or_gt_of_ne ne with q | q
  ·exact (List.pairwise_iff_getElem.mp nd _ _ l1 l2 q) (m1.trans m2.symm)
  ·exact (List.pairwise_iff_getElem.mp nd _ _ l2 l1 q) (m2.trans m1.symm)
 ·have nd : a ≠ D := by
   rintro rfl
   rw [z0d] at h
   cases h
  rw [z0j nd] at h
  exact ⟨r.fr a h, nd⟩
end D
end
section
namespace D
open PySem PySem.Spec PyProof.Rows L2
variable [Tbl]
structure CompOk (X : Cx) (scope : Scope) (own : List Str) (caps : List (Nat × Str)) : Prop where
 kind : scope.kind = .function
 names : ∀ y ∈ scope.names, y.2 = .local -> scope.names.lookup y.1 = some .local
 cell : ∀ y ∈ scope.names, y.2 ≠ .cell
 free : ∀ y ∈ scope.names, y.2 = .free -> X.env.kindOf y.1 = some .cell \/ X.env.kindOf y.1 = some .free
 cap : ∀ p ∈ caps, X.N[p.1]? = some p.2 /\ scope.names.lookup p.2 = some .free
 nd : (caps.map (·.1)).Nodup
 calm : X.calm = true
section
variable {X : Cx} {tg iter elt : Expr} {ifs : List Expr} {scope : Scope} {it : Fi} {gg : Fg} {cc : Ft} {ee : Fe} {pos : Pos} {own : List Str} {caps : List (Nat × Str)}
theorem zlp {pins : List (Addr × Obj)} {σ : L2.St} {H2 : Hp} {s2 : y04} {fp : List Addr} (S : CompOk X scope own caps) (I2 : L2.Inv X pins σ H2 s2) (f2 : ∀ b ∈ fp, FpOk X pins H2 b) (hfp : ∀ b ∈ fp, b < s2.heap.objs.size) (N' : List Str) :
  (z2x X N' scope (clos X.env scope.names []) (s2.heap.push { cls := .type "list", data := .seq ([] : List Value).toArray }).objs.size { s2 with heap := s2.heap.push { cls := .type "list", data := .seq ([] : List Value).toArray } } (upd H2 s2.heap.objs.size (.lst [])) fp (X.pn ++ pins)).Ok := by
 have hcl : ∀ x ∈ scope.names, x.2 = .free -> ∃ c, X.env.cells.lookup x.1 = some c := fun x hx hk => I2.ok.has x.1 (S.free x hx hk)
 have cf : ∀ x c, (clos X.env scope.names []).lookup x = some c -> X.env.cells.lookup x = some c := z8p hcl (fun x c e => by simp at e)
 have I3 := I2.lnew (its := []) (ys := []) (t' := s2.toks) .nil (y2c _)
 have sz : (s2.heap.push { cls := .type "list", data := .seq ([] : List Value).toArray }).objs.size = s2.heap.objs.size + 1 := y1a ..
 refine ⟨I2.ok.mod, S.kind, I2.ok.glob, I2.ok.blt, y0p _, fun x y c e1 e2 => I2.ok.inj x y c (cf x c e1) (cf y c e2), fun x hx => ?_, fun x c h => (by cases h), I2.ok.hd, I2.ok.frames, .inl rfl, fun b hb => ⟨?_, fun x c e => (f2 b hb).2.2.2.2.1 x c (cf x c e)⟩, fun b o e => ?_, ?_, fun b o e hb => ?_, fun b hb hf => ?_, I3.stack, I3.stkFree⟩
 ·exact zad (.inl (zeg S.cell hx))
 ·show b ≠ (s2.heap.push { cls := .type "list", data := .seq ([] : List Value).toArray }).objs.size
  have h := hfp b hb
  rw [sz]
  exact y10 (Nat.lt_succ_of_lt h)
 ·obtain ⟨h1, h2⟩ := I3.bs b o e
  exact ⟨h1, h2⟩
 ·have h1 := y1u I2.ok.bsz I2.sz
  show X.base.objs.size <= (s2.heap.push { cls := .type "list", data := .seq ([] : List Value).toArray }).objs.size
  omega
 ·rcases (f2 b hb).2.2.2.1 with q | q
  ·exact I2.ok.noex b o e q
  ·exact absurd (y0y (y0c (I2.ok.bs b o e).1) q) (Nat.lt_irrefl _)
 ·rcases y09.mp (I2.stkSub b hf) with q | q
  ·exact (f2 b hb).2.1 q
  ·exact (f2 b hb).2.2.1 q
theorem znj {pins : List (Addr × Obj)} {σ : L2.St} {H2 : Hp} {s2 : y04} {fp : List Addr} (S : CompOk X scope own caps) (I2 : L2.Inv X pins σ H2 s2) (f2 : ∀ b ∈ fp, FpOk X pins H2 b) (hfp : ∀ b ∈ fp, b < s2.heap.objs.size) {h₁ : Heap} {m : Str -> Option Value} {tk : Nat}
  (hns : h₁.Ns (s2.heap.push { cls := .type "list", data := .seq ([] : List Value).toArray }).objs.size m) (keep : ∀ b u, (s2.heap.push { cls := .type "list", data := .seq ([] : List Value).toArray }).get? b = some u -> h₁.get? b = some u) :
  L2.Inv (z2x X (own ++ caps.map (·.2)) scope (clos X.env scope.names []) (s2.heap.push { cls := .type "list", data := .seq ([] : List Value).toArray }).objs.size { s2 with heap := s2.heap.push { cls := .type "list", data := .seq ([] : List Value).toArray } } (upd H2 s2.heap.objs.size (.lst [])) fp (X.pn ++ pins)) []
   (znk own.length (caps.map (·.1)) σ) (upd H2 s2.heap.objs.size (.lst [])) { s2 with heap := h₁, toks := tk } := by
 have hcl : ∀ x ∈ scope.names, x.2 = .free -> ∃ c, X.env.cells.lookup x.1 = some c := fun x hx hk => I2.ok.has x.1 (S.free x hx hk)
 have cf : ∀ x c, (clos X.env scope.names []).lookup x = some c -> X.env.cells.lookup x = some c := z8p hcl (fun x c e => by simp at e)
 have I3 := I2.lnew (its := []) (ys := []) (t' := s2.toks) .nil (y2c _)
 refine ⟨zlp S I2 f2 hfp _, rfl, I2.bare, Un.kept keep, ⟨m, hns, fun i x v h1 h2 hv => ?_⟩, fun x c e => ?_, ?_, fun x c e => I3.freeC x c (cf x c e), fun p hp => ?_, I3.hok.kept keep, by simp [znk, z2x]⟩
 ·obtain ⟨j, hn, hc, hj⟩ := z9h (l := σ) h2
  have hx : (caps.map (·.2))[i - own.length]? = some x := by
   have : (own ++ caps.map (·.2))[i]? = some x := h1
   rwa [y1p hn] at this
  rw [y17] at hc hx
  cases ep : caps[i - own.length]? with
  | none => rw [ep] at hc; cases hc
  | some p =>
   rw [ep] at hc hx
   cases hc
   cases hx
   obtain ⟨hN, hf⟩ := S.cap p (y21 ep)
   obtain ⟨y, hy, k1, k2⟩ := zcn hf
   have hk := S.free y hy k1
   rw [k2] at hk
   obtain ⟨m3, hn3, hl3⟩ := I3.loc
   have vis : Vis X.env.scope p.2 := by
    rcases hk with hk | hk
    ·exact .inr (.inl hk)
    ·exact .inr (.inr hk)
   obtain ⟨u, ru, lu⟩ := hl3 p.1 p.2 v hN hj vis
   refine ⟨u, ru, .inr ⟨?_, ?_⟩⟩
   ·obtain ⟨k', e1, e2⟩ := z7l (env := X.env) hf
    rcases e2 with rfl | ⟨_, rfl⟩
    ·exact .inr e1
    ·exact .inl e1
   ·rcases lu with ⟨q, _⟩ | ⟨_, c, hc, hcell⟩
    ·rcases hk with hk | hk
     ·rw [hk] at q; cases q
     ·rw [hk] at q; cases q
    ·obtain ⟨c', hc'⟩ := zad (env := X.env) (l := scope.names) (cs := []) (x := p.2) (.inl ⟨y, hy, k1, k2⟩)
     have := cf _ _ hc'
     rw [hc] at this
     cases this
     obtain ⟨oc, ho, hd⟩ := hcell
     exact ⟨c, hc', oc, keep _ _ ho, hd⟩
 ·obtain ⟨v, oc, ho, hd⟩ := I3.cell x c (cf x c e)
  exact ⟨v, oc, keep _ _ ho, hd⟩
 ·exact I3.hok.fresh (y0p _)
 ·have hp' : p ∈ X.pn ++ pins := by simpa [z2x] using hp
  obtain ⟨h1, h2, h3, h4, h5⟩ := I3.pin p hp'
  refine ⟨keep _ _ h1, h2, y10 (y0c h1), fun z => ?_, h5⟩
  rcases y09.mp (I2.stkSub p.1 z) with q | q
  ·exact h3 q
  ·exact h4 q
theorem zjc {pins : List (Addr × Obj)} {σ σ' : L2.St} {H2 H' : Hp} {s2 s' : y04} {fp : List Addr} {N' : List Str} (I2 : L2.Inv X pins σ H2 s2) (f2 : ∀ b ∈ fp, FpOk X pins H2 b)
  (J : L2.Inv (z2x X N' scope (clos X.env scope.names []) (s2.heap.push { cls := .type "list", data := .seq ([] : List Value).toArray }).objs.size { s2 with heap := s2.heap.push { cls := .type "list", data := .seq ([] : List Value).toArray } } (upd H2 s2.heap.objs.size (.lst [])) fp (X.pn ++ pins)) [] σ' H' s')
  {h' : Heap} (sb : Heap.SameBut (s2.heap.push { cls := .type "list", data := .seq ([] : List Value).toArray }).objs.size s'.heap h') : L2.Inv X pins σ H' { s' with heap := h' } := by
 have I3 := I2.lnew (its := []) (ys := []) (t' := s2.toks) .nil (y2c _)
 have u := J.base
 have free : H' (s2.heap.push { cls := .type "list", data := .seq ([] : List Value).toArray }).objs.size = none := J.free
 have old : ∀ b o, (s2.heap.push { cls := .type "list", data := .seq ([] : List Value).toArray }).get? b = some o -> b ≠ (s2.heap.push { cls := .type "list", data := .seq ([] : List Value).toArray }).objs.size := fun b o e => y10 (y0c e)
 have eqh : ∀ b, b ≠ (s2.heap.push { cls := .type "list", data := .seq ([] : List Value).toArray }).objs.size -> ∀ o, s'.heap.get? b = some o -> h'.get? b = some o := fun b hb o e => sb.extBut b o hb e
 have u2 : Un (frs X.stack) fp (upd H2 s2.heap.objs.size (.lst [])) H' (s2.heap.push { cls := .type "list", data := .seq ([] : List Value).toArray }) h' := by
  refine ⟨fun b o e n hf hx => eqh b (old b o e) _ (u.keep b o e n hf hx), fun b o e n hf hx => ?_, u.free, fun b o e hx => ?_, u.tups, u.frzs, u.tbls⟩
  ·obtain ⟨sl, q⟩ := u.slot b o e n hf hx
   exact ⟨sl, eqh b (old b o e) _ q⟩
  ·obtain ⟨o', q⟩ := u.there b o e hx
   exact ⟨o', eqh b (old b o e) _ q⟩
 have hok : HOk X.prog X.w H' h' := fun b o e => by
  refine (J.hok b o e).stay (fun c v hc q => eqh c (fun z => ?_) v q) (fun _ q => q) fun _ _ q => q
  rcases hc with rfl | hc
  ·rw [z, free] at e
   cases e
  ·rw [z, free] at hc
   cases hc
 have hos := J.os
 have hbare := J.bare
 obtain ⟨hh, g, d, t, os⟩ := s'
 obtain rfl : os = s2.os := hos
 have fin := I3.call (h' := h') (g' := g) (d' := d) (t' := t) (ch := fp) u2 hok hbare fun b hb => ⟨(f2 b hb).2.2.2.1, (f2 b hb).2.1, (f2 b hb).2.2.2.2.1, (f2 b hb).2.2.2.2.2⟩
 exact fin
theorem zlq {X' : Cx} {R : Result -> y04 -> Prop} {J : It} {fp : List Addr} {it' D : Addr} {tn : Nat -> Heap -> Prop} {F₀ O F1 : Addr -> Prop} {H₀ : En} {H2 : Hp} {ts ys : List T} (hx : X'.xe = fun _ _ => False) (hc : X'.calm = true) (hg : PGt X' tg gg) (ht : PTs X' ifs cc) (he : PEv X' elt ee)
  (T : Turn X'.prog X'.w X'.K tg J fp it' tn) (stat : ∀ H' : Hp, (∀ b ∈ fp, H' b = none) -> ∀ b ∈ fp, FpOk X' [] H' b) (ok : ItOk X'.K J F1 H2 ts) (hbig : ts.length <= big) (hD2 : H2 D = none) (hO : ¬ O D) (hH0 : H₀.h D = none)
  (fin : ∀ σ' H' F' s1 vs, L2.Inv X' [] σ' H' s1 -> Ext F1 H2 F' H' -> H' D = some (.lst vs) -> ¬ F' D -> RepL X'.K F' H' ys vs -> R (.ok .next) s1)
  {s : y04} {σ : L2.St} {H : Hp} {F : Addr -> Prop} {ε : Ev} (I : L2.Inv X' [] σ H s) (st : tn 0 s.heap) (fr : ∀ b ∈ fp, H b = none) (x : Ext F1 H2 F H) (r : RelE X'.K F₀ H₀ O F H ε σ) (hD : H D = some (.lst [])) (nD : ¬ F D) (ey : z48 gg cc ee ts ε = some ys) :
  codeAny (model X'.prog X'.w) X'.A (.compLoop (.ListComp elt [⟨tg, iter, ifs, 0⟩] scope pos) 0 (.ref it') (.ref D) X'.env) R s := by
 refine zfl (fun n s' => ∃ i σ' H' F' ε' dn vs, n = ts.length - i /\ i <= ts.length /\ L2.Inv X' [] σ' H' s' /\ tn i s'.heap /\ (∀ b ∈ fp, H' b = none) /\ Ext F1 H2 F' H' /\ RelE X'.K F₀ H₀ O F' H' ε' σ' /\ H' D = some (.lst vs) /\ ¬ F' D /\ RepL X'.K F' H' dn vs /\ dn.length <= i /\
  ∃ rest, z48 gg cc ee (ts.drop i) ε' = some rest /\ ys = dn ++ rest) ?_ ts.length ⟨0, σ, H, F, ε, [], [], rfl, y2c _, I, st, fr, x, r, hD, nD, RepL.nil, y0p _, ys, by simpa using ey, by simp⟩
 rintro n s3 ⟨i, σ3, H3, F3, ε3, dn, vs, rfl, hi, I3, st3, fr3, x3, r3, hD3, nD3, q3, hl3, rest, er, es⟩
 have nf : ∀ {F4 : Addr -> Prop} {H4 : Hp} {F5 : Addr -> Prop} {H5 : Hp} {o : HO}, Ext F4 H4 F5 H5 -> H4 D = some o -> ¬ F4 D -> ¬ F5 D := fun y e n z => by
  rcases y.new D z with q | q
  ·exact n q
  ·rw [e] at q
   cases q
 by_cases hlt : i < ts.length
 ·have hd : ts.drop i = ts[i] :: ts.drop (i + 1) := List.drop_eq_getElem_cons hlt
  have hg' : ts[i]? = some ts[i] := y0w hlt
  rw [hd] at er
  simp only [z48, y01] at er
  obtain ⟨ε4, eg, b, eb, er⟩ := er
  refine y1g (T.item X' rfl rfl rfl hc i [] s3 σ3 H3 (fun _ _ => False) I3 (stat H3 fr3) st3 (ok.go i F3 H3 _ x3.kp r3.dom hg')) (fun rv s4 ⟨u, hr, h4⟩ => ?_) fun _ _ z => z
  subst hr
  refine y1g h4 (fun _ s5 ⟨x', H5, I5, r5, y5, st5, fr5⟩ => ?_) fun _ _ z => z
  obtain ⟨F5, x5, rx⟩ := ok.yld i F3 H3 _ x' H5 x3.kp r3.dom hg' y5
  have I5' := I5.pinned (stat H5 fr5) (T.obj _ _ st5)
  have hg2 := hg _ s5 σ3 H5 x' u (fun σ6 H6 => H6 = H5 /\ RelE X'.K F₀ H₀ O F5 H5 ε4 σ6) I5' r5 ⟨F₀, H₀, O, F5, ε3, _, ε4, r3.ext x5, rx, eg, fun σ6 r6 => ⟨rfl, r6⟩⟩
  rw [hx] at hg2
  refine y1g hg2 (fun _ s6 ⟨σ6, H6, I6, e6, r6⟩ => ?_) fun _ _ z => z
  subst e6
  have again : ∀ {σ7 : L2.St} {H7 : Hp} {s7 : y04}, L2.Inv X' ([] ++ zej fp s5.heap) σ7 H7 s7 -> tn (i + 1) s7.heap /\ (∀ b ∈ fp, H7 b = none) /\ L2.Inv X' [] σ7 H7 s7 := fun {σ7 H7 s7} I7 => by
   refine ⟨T.keep _ _ _ st5 fun b hb o e => (I7.pin (b, o) (y1d _ (y1d _ (z73 hb e)))).1, fun b hb => ?_, I7.unpinned⟩
   obtain ⟨o, e, d⟩ := T.obj _ _ st5 b hb
   exact (I7.pin (b, o) (y1d _ (y1d _ (z73 hb e)))).2.1
  have ht2 := ht _ s6 σ6 H6 (fun b' H7 => b' = b /\ ∃ F7, Ext F5 H6 F7 H7) I6 ⟨F₀, H₀, O, F5, ε4, b, r6, eb, fun F7 H7 x7 => ⟨rfl, F7, x7⟩⟩
  rw [hx] at ht2
  refine y1g ht2 (fun ok' s7 ⟨H7, I7, e7, F7, x7⟩ => ?_) fun _ _ z => z
  subst e7
  have x37 := x5.trans x7
  have r7 := r6.ext x7
  cases ok' with
  | false =>
   simp only [y20, if_false] at er ⊢
   obtain ⟨a1, a2, a3⟩ := again I7
   exact ⟨_, by omega, i + 1, σ6, H7, F7, ε4, dn, vs, rfl, hlt, a3, a1, a2, x3.trans x37, r7, x37.same.get hD3, nf x37 hD3 nD3, q3.ext x37, by omega, rest, er, es⟩
  | true =>
   simp only [if_true, y01, y07] at er ⊢
   obtain ⟨y, ey', rest', er', rfl⟩ := er
   have he2 := he _ s7 σ6 H7 (fun v H8 => ∃ F8, Ext F7 H7 F8 H8 /\ Rep X'.K F8 H8 y v) I7 ⟨F₀, H₀, O, F7, ε4, y, r7, ey', fun v F8 H8 x8 q8 => ⟨F8, x8, q8⟩⟩
   rw [hx] at he2
   refine y1g he2 (fun u8 s8 ⟨v8, H8, I8, r8, F8, x8, q8⟩ => ?_) fun _ _ z => z
   have x38 := x37.trans x8
   have hD8 := x38.same.get hD3
   have nD8 := nf x38 hD3 nD3
   obtain ⟨kp9, r9⟩ := (r7.ext x8).other (ys := vs ++ [v8]) nD8 hO hH0 hD8
   have ha := zax (X := X') _ s8 σ6 H8 (.ref D) [v8] (.ref D) [u8] (fun _ H9 => H9 = upd H8 D (.lst (vs ++ [v8]))) I8 rfl (.cons r8 .nil) ⟨D, vs, v8, rfl, rfl, hD8, by rw [z86, <- q3.length]; omega, rfl⟩
   rw [hx] at ha
   refine y1g ha (fun u9 s9 ⟨v9, H9, I9, r9', e9⟩ => ?_) fun _ _ z => z
   subst e9
   obtain ⟨a1, a2, a3⟩ := again I9
   have x9 : Ext F1 H2 F8 (upd H8 D (.lst (vs ++ [v8]))) := by
    have y := x3.trans x38
    refine ⟨fun b o e => ?_, y.sub, y.new, ⟨fun b f => ?_, y.dom.tgs.upd fun u e => .inl ⟨_, Option.some.inj (e.symm.trans hD8)⟩⟩⟩
    ·have nb : b ≠ D := by
      rintro rfl
      rw [hD2] at e
      cases e
     rw [z0j nb]
     exact y.same b o e
    ·have nb : b ≠ D := by
      rintro rfl
      exact nD8 f
     rw [z0j nb]
     exact y.dom b f
   refine ⟨_, by omega, i + 1, σ6, _, F8, ε4, dn ++ [y], vs ++ [v8], rfl, hlt, a3, a1, a2, x9, r9, z0d, nD8, ((q3.ext x38).append (RepL.cons q8 RepL.nil)).kp kp9, by simp; omega, rest', er', by rw [es]; simp⟩
 ·have hd : ts.drop i = [] := List.drop_eq_nil_of_le (by omega)
  rw [hd] at er
  cases er
  refine y1g (T.done X' rfl rfl rfl hc i [] s3 σ3 H3 (fun _ _ => False) I3 (stat H3 fr3) st3 (ok.stop i F3 H3 x3.kp (by omega))) (fun rv s4 ⟨hr, I4⟩ => ?_) fun _ _ z => z
  subst hr
  exact fin σ3 H3 F3 s4 vs I4 x3 hD3 nD3 (by rw [es, y26]; exact q3)
structure After (X : Cx) (pins : List (Addr × Obj)) (σ : L2.St) (F : Addr -> Prop) (H : Hp) (ys : List T) (D C : Addr) (H' : Hp) (F' : Addr -> Prop) (s1 : y04) (vs : List V) : Prop where
 inv : ∀ h', Heap.SameBut C s1.heap h' -> L2.Inv X pins σ H' { s1 with heap := h' }
 ns : ∃ m, s1.heap.Ns C m
 free : H' C = none
 above : X.s₀.heap.objs.size <= C
 cells : ∀ x c, X.env.cells.lookup x = some c -> c ≠ C
 pin : ∀ p ∈ X.pn ++ pins, p.1 ≠ C
 loc : C ≠ X.env.locals
 new : H D = none
 ext : Ext F H F' H'
 nf : ¬ F' D
 lst : H' D = some (.lst vs)
 rep : RepL X.K F' H' ys vs
theorem zi5 {use : Option (Value -> Sem Unit)} {Q : Value -> y04 -> Prop} {p2 : Pos} (S : CompOk X scope own caps) (hi : PIt X tg iter it)
  (hg : ∀ cl C s₀ H₀ fp pn, PGt (z2x X (own ++ caps.map (·.2)) scope cl C s₀ H₀ fp pn) tg gg)
  (ht : ∀ cl C s₀ H₀ fp pn, PTs (z2x X (own ++ caps.map (·.2)) scope cl C s₀ H₀ fp pn) ifs cc)
  (he : ∀ cl C s₀ H₀ fp pn, PEv (z2x X (own ++ caps.map (·.2)) scope cl C s₀ H₀ fp pn) elt ee)
  (hs : ∀ x, foldedSetIterable iter X.env x = pure x) {pins : List (Addr × Obj)} {s : y04} {σ : L2.St} {H : Hp} {F₀ O F : Addr -> Prop} {H₀ : En} {ε : Ev} {ys : List T} (I : L2.Inv X pins σ H s) (r : RelE X.K F₀ H₀ O F H ε σ)
  (e : comp own.length (caps.map (·.1)) it gg cc ee ε = some (.list ys)) (fin : ∀ D C H' F' s1 vs, After X pins σ F H ys D C H' F' s1 vs -> compPost (model X.prog X.w) X.A X.xe use Q (.ref D) C (.ok .next) s1) :
  y0v (model X.prog X.w) X.A (comprehension (.ListComp elt [⟨tg, iter, ifs, 0⟩] scope pos) scope X.env p2 (newList []) false (eval iter X.env) use) Q X.xe s := by
 simp only [comp, y01] at e
 obtain ⟨ts, et, e⟩ := e
 split at e
 case isFalse => cases e
 next hbig =>
 simp only [y07] at e
 obtain ⟨ys', ey, e⟩ := e
 cases e
 have hcl : ∀ x ∈ scope.names, x.2 = .free -> ∃ c, X.env.cells.lookup x.1 = some c := fun x hx hk => I.ok.has x.1 (S.free x hx hk)
 refine wpAny_comprehension_free rfl hs (zdw hcl) S.kind S.names (thn (hi pins s σ H (fun J H1 => ∃ F1, Ext F H F1 H1 /\ ItOk X.K J F1 H1 ts) I ⟨F₀, H₀, O, F, ε, ts, r, et, fun J F1 H1 x1 ok => ⟨F1, x1, ok⟩⟩) fun v s1 h1 => thn h1 fun itv s2 h2 => ?_)
 obtain ⟨it', fp, tn, J, H2, rfl, I2, T, st2, f2, F1, x1, ok⟩ := h2
 have hfp : ∀ b ∈ fp, b < s2.heap.objs.size := fun b hb => by
  obtain ⟨o, ho, _⟩ := T.obj 0 _ st2 b hb
  exact y0c ho
 have hD2 : H2 s2.heap.objs.size = none := I2.fresh
 have hD : H s2.heap.objs.size = none := x1.same.none hD2
 have sz : (s2.heap.push { cls := .type "list", data := .seq ([] : List Value).toArray }).objs.size = s2.heap.objs.size + 1 := y1a ..
 refine wpAny_newList ?_ (y2c _)
 refine wpAny_newFunctionEnv S.cell (by intro y hy; simp at hy) (fun h₁ hns₁ hsb₁ => ?_) S.kind
 have keep : ∀ b u, (s2.heap.push { cls := .type "list", data := .seq ([] : List Value).toArray }).get? b = some u -> h₁.get? b = some u := fun b u e => hsb₁.extBut b u (y10 (y0c e)) (y03 _ e)
 have I4 := znj (tk := s2.toks + 0) S I2 f2 hfp hns₁ keep
 have r4 := (r.ext x1).cap (D := s2.heap.objs.size) own.length S.nd hD2
 refine codeAny_compStart_list ?loop (T.self _ 0 _ _ _ (T.keep 0 _ _ st2 fun b hb o e => keep b o (y03 _ e)) ?loop)
 refine zlq (X' := z2x X (own ++ caps.map (·.2)) scope (clos X.env scope.names []) (s2.heap.push { cls := .type "list", data := .seq ([] : List Value).toArray }).objs.size { s2 with heap := s2.heap.push { cls := .type "list", data := .seq ([] : List Value).toArray } } (upd H2 s2.heap.objs.size (.lst [])) fp (X.pn ++ pins))
  rfl S.calm (hg _ _ _ _ _ _) (ht _ _ _ _ _ _) (he _ _ _ _ _ _) T (fun H' hn b hb => ?_) ok hbig hD2 (fun z => z.2 rfl) (r.o0 _ (r.fr _ hD)) (fun σ' H' F' s1 vs J1 x' hD' nD' q' => ?_) I4 (T.keep 0 _ _ st2 fun b hb o e => keep b o (y03 _ e)) (fun b hb => ?_) (Ext.laid x1.dom hD2) r4 z0d ?_ ey
 ·have okX := zlp S I2 f2 hfp (own ++ caps.map (·.2))
  refine ⟨hn b hb, (okX.exf b hb).1, okX.exfs b hb, .inl hb, fun x c e => (okX.exf b hb).2 x c e, fun p hp => ?_⟩
  have hp' : p ∈ X.pn ++ pins := by simpa [z2x] using hp
  exact (f2 b hb).2.2.2.2.2 p hp'
 ·obtain ⟨m, hn, _⟩ := id J1.loc
  refine fin s2.heap.objs.size _ H' F' s1 vs ⟨fun h' sb => zjc I2 f2 J1 sb, ⟨m, hn⟩, J1.free, ?_, fun x c e z => ?_, fun p hp z => ?_, ?_, hD, x1.trans x', nD', hD', q'⟩
  ·rw [sz]
   exact Nat.le_succ_of_le I2.sz
  ·obtain ⟨v, q⟩ := I2.cell x c e
   have := q.lt
   rw [z, sz] at this
   exact absurd this (Nat.not_lt.mpr (Nat.le_succ _))
  ·have := y0c (I2.pin p hp).1
   rw [z, sz] at this
   exact absurd this (Nat.not_lt.mpr (Nat.le_succ _))
  ·have := I2.lt
   rw [sz]
   exact y18 (Nat.lt_succ_of_lt this)
 ·have := (f2 b hb).1
  rw [z0j (y10 (hfp b hb))]
  exact this
 ·intro z
  obtain ⟨o, e⟩ := x1.dom _ z
  rw [hD2] at e
  cases e
theorem zr1 (S : CompOk X scope own caps) (hi : PIt X tg iter it)
  (hg : ∀ cl C s₀ H₀ fp pn, PGt (z2x X (own ++ caps.map (·.2)) scope cl C s₀ H₀ fp pn) tg gg)
  (ht : ∀ cl C s₀ H₀ fp pn, PTs (z2x X (own ++ caps.map (·.2)) scope cl C s₀ H₀ fp pn) ifs cc)
  (he : ∀ cl C s₀ H₀ fp pn, PEv (z2x X (own ++ caps.map (·.2)) scope cl C s₀ H₀ fp pn) elt ee)
  (hs : ∀ x, foldedSetIterable iter X.env x = pure x := by intro _; rfl) : PEn X (.ListComp elt [⟨tg, iter, ifs, 0⟩] scope pos) (comp own.length (caps.map (·.1)) it gg cc ee) := by
 intro pins s σ H Q I ⟨F₀, H₀, O, F, ε, ys, r, e, k⟩
 rw [eval_ListComp]
 refine zi5 S hi hg ht he hs I r e fun D C H' F' s1 vs a => ?_
 obtain ⟨m, hn⟩ := a.ns
 exact ⟨m, hn, fun h' sb => ⟨.ref D, H', a.inv h' sb, rfl, k D vs F' H' a.ext a.new a.nf a.lst a.rep⟩⟩
theorem zfk {ε : Ev} {n : Nat} {cs : List Nat} {t : T} (e : comp n cs it gg cc ee ε = some t) : ∃ ts, t = .list ts := by
 simp only [comp, y01] at e
 obtain ⟨ts, _, e⟩ := e
 split at e
 ·simp only [y07] at e
  obtain ⟨ys, _, e⟩ := e
  exact ⟨ys, e.symm⟩
 ·cases e
theorem z5h (S : CompOk X scope own caps) (hi : PIt X tg iter it)
  (hg : ∀ cl C s₀ H₀ fp pn, PGt (z2x X (own ++ caps.map (·.2)) scope cl C s₀ H₀ fp pn) tg gg)
  (ht : ∀ cl C s₀ H₀ fp pn, PTs (z2x X (own ++ caps.map (·.2)) scope cl C s₀ H₀ fp pn) ifs cc)
  (he : ∀ cl C s₀ H₀ fp pn, PEv (z2x X (own ++ caps.map (·.2)) scope cl C s₀ H₀ fp pn) elt ee)
  (hs : ∀ x, foldedSetIterable iter X.env x = pure x := by intro _; rfl) : PEv X (.ListComp elt [⟨tg, iter, ifs, 0⟩] scope pos) (comp own.length (caps.map (·.1)) it gg cc ee) :=
 n2v (zr1 S hi hg ht he hs) fun ε t e => zfk e
theorem zk3 (i : Nat) {x : Str} {px spos : Pos} (hN : X.N.Nodup) (S : CompOk X scope own caps) (hit : PIt X tg iter it)
  (hg : ∀ cl C s₀ H₀ fp pn, PGt (z2x X (own ++ caps.map (·.2)) scope cl C s₀ H₀ fp pn) tg gg)
  (ht : ∀ cl C s₀ H₀ fp pn, PTs (z2x X (own ++ caps.map (·.2)) scope cl C s₀ H₀ fp pn) ifs cc)
  (he : ∀ cl C s₀ H₀ fp pn, PEv (z2x X (own ++ caps.map (·.2)) scope cl C s₀ H₀ fp pn) elt ee)
  (hi : X.N[i]? = some x := by rfl) (hx : Loc X.env.scope x := by first | exact Or.inl rfl | exact Or.inr rfl)
  (hsw : swapsWith (.ListComp elt [⟨tg, iter, ifs, 0⟩] scope pos) (some (.Name x px)) spos.line X.env = pure true := by rfl)
  (hf : X.fn x = true \/ X.env.scope.names.lookup x = some .local := by first | exact .inl rfl | exact .inr rfl)
  (hs : ∀ x, foldedSetIterable iter X.env x = pure x := by intro _; rfl) :
  PSt X (.Assign [.Name x px] (.ListComp elt [⟨tg, iter, ifs, 0⟩] scope pos) spos) (asg i (comp own.length (caps.map (·.1)) it gg cc ee)) := by
 intro pins s σ H D I ⟨F₀, H₀, O, F, ε, o, r, e, k⟩
 simp only [asg, y07] at e
 obtain ⟨t, et, rfl⟩ := e
 obtain ⟨ys, rfl⟩ := zfk et
 rw [exec_Assign_Name_used _ _ _ _ hsw]
 refine y02 (wpAny_standAt (y02 ?_))
 show y0v _ X.A (do let _ <- comprehension (.ListComp elt [⟨tg, iter, ifs, 0⟩] scope pos) scope X.env _ (newList []) false (eval iter X.env) (some (assign (.Name x px) X.env))) _ _ s
 refine y02 (thn (zi5 (use := some (assign (.Name x px) X.env)) (Q := fun _ s' => SP X pins D .next s') S hit hg ht he hs I r et fun D' C H' F' s1 vs a => ?_) fun _ s' hq => y06 (y06 hq))
 have IX := a.inv s1.heap (Heap.SameBut.refl ..)
 have IX' : L2.Inv X pins σ H' s1 := IX
 show y0v _ X.A (assign (.Name x px) X.env (.ref D')) _ _ _
 refine wpAny_assign_Name (ze8 (v := .ref D') IX' hN hi hx rfl (fun s2 I2 ⟨b, sb, hb⟩ => ?_) hf)
 obtain ⟨m, hn⟩ := a.ns
 have nb : C ≠ b := by
  rcases hb with rfl | hb
  ·exact a.loc
  ·exact (a.cells x b hb).symm
 refine ⟨m, hn.sameBut sb nb, fun h' sb' => ?_⟩
 have I3 : L2.Inv X pins (σ.set i (some (.ref D'))) H' { s2 with heap := h' } := I2.turned (t' := s2.toks) (it := C) (fun b o hb e => sb'.extBut b o hb e) a.free a.loc (.inr a.above) a.cells a.pin
 refine ⟨_, H', I3, ?_⟩
 have y : Ext F H (fun b => F' b \/ b = D') H' := ⟨a.ext.same, fun b z => .inl (a.ext.sub b z), fun b z => by
  rcases z with z | rfl
  ·exact a.ext.new b z
  ·exact .inr a.new, ⟨fun b z => by
  rcases z with z | rfl
  ·exact a.ext.dom b z
  ·exact ⟨_, a.lst⟩, a.ext.dom.tgs⟩⟩
 refine k _ _ H' y.kp ((r.ext y).set i ?_)
 simp only [Rep]
 exact ⟨D', vs, rfl, .inr rfl, .inl a.lst, a.rep.keep (fun _ _ z => z) fun b _ z w => ⟨.inl z, w⟩⟩
end
end D
end
section
namespace D
open PySem PySem.Spec PyProof.Rows L2
variable [Tbl]
open AutoSeq1 (wpAny_loadPart')
theorem z79 (l : Addr) (items : Array Value) (n : Nat) (dct : Option Addr) (sl : Array (Option Value)) :
  Meets (Builtin.«enumerate.__new__» ⟨[.type "enumerate", .ref l], []⟩) (fun _ R s => s.heap.get? l = some { cls := .type "tuple", dict := dct, data := .seq items n, slots := sl } /\
   R (.ok (.ret (.ref (s.heap.push { cls := .type "tuple_iterator", data := .fields #[.ref l, .int 0 0] }).objs.size)))
    { s with heap := (s.heap.push { cls := .type "tuple_iterator", data := .fields #[.ref l, .int 0 0] }).push { cls := .type "enumerate", data := .fields #[.none, .bool false, .ref s.heap.objs.size, rawInt 0, .none, .none] } }) :=
 .of_wp fun prog w A R s h => by
  obtain ⟨hp, g, d, tk, os⟩ := s; obtain ⟨hl, h⟩ := h
  have hsub := sub_enumerate
  have hL : Heap.IsTuple (Shared.heap ⟨hp, g, d, tk, os⟩) l items := ⟨_, hl, rfl, n, rfl⟩
  wp_walk using wpAny_loadPart' hl
  refine wpAny_stack_any fun st => y06 ?_
  split
  ·rename_i c _ _ _ _ _
   cases (c == Value.type "enumerate")
   ·wp_walk using wpAny_loadPart' hl, wpAny_pyIter_tuple hL
    exact ⟨_, rfl, h⟩
   ·wp_walk using wpAny_loadPart' hl, wpAny_pyIter_tuple hL
    exact ⟨_, rfl, h⟩
  ·wp_walk using wpAny_loadPart' hl, wpAny_pyIter_tuple hL
   exact ⟨_, rfl, h⟩
section
variable {prog : y0r} {w : World} {A : Around} {E : Value -> y04 -> Prop} {s : y04}
theorem z7b {l : Addr} {items : Array Value} {Q : Value -> y04 -> Prop} (hL : s.heap.IsTuple l items)
  (h : ∀ h', IsEnum h' (s.heap.objs.size + 1) s.heap.objs.size 0 .none -> h'.IsTupleIter s.heap.objs.size l 0 -> h'.objs.size = s.heap.objs.size + 2 ->
   (∀ b o, s.heap.get? b = some o -> h'.get? b = some o) -> Q (.ref (s.heap.objs.size + 1)) { s with heap := h' }) :
  y0v (model prog w) A (call (.type "enumerate") [.ref l]) Q E s := by
 obtain ⟨⟨c, dct, dt, sl⟩, hl, hc, n, hd⟩ := hL
 replace hc : c = .type "tuple" := hc
 replace hd : dt = .seq items n := hd
 subst hc hd
 refine callType_new F.called_enumerate (by decide) (F.typeCall_enumerate_1 _) (F.newCall_enumerate_1 _) (fun obj => F.args_object_init_2 obj _) F.entry_enumerate_new
  (z79 l items n dct sl) ⟨hl, ?_⟩
 have hz : (s.heap.push { cls := .type "tuple_iterator", data := .fields #[.ref l, .int 0 0] }).objs.size = s.heap.objs.size + 1 := y1a ..
 show _ /\ _
 rw [hz]
 have he : IsEnum ((s.heap.push { cls := .type "tuple_iterator", data := .fields #[.ref l, .int 0 0] }).push
   { cls := .type "enumerate", data := .fields #[.none, .bool false, .ref s.heap.objs.size, rawInt 0, .none, .none] }) (s.heap.objs.size + 1) s.heap.objs.size 0 .none := by
  have := y0m (s.heap.push { cls := .type "tuple_iterator", data := .fields #[.ref l, .int 0 0] })
   (o := { cls := .type "enumerate", data := .fields #[.none, .bool false, .ref s.heap.objs.size, rawInt 0, .none, .none] }) rfl
  rw [hz] at this; exact this
 refine ⟨⟨_, he, rfl⟩, h _ he ⟨_, y03 _ (y0m _ rfl), rfl, rfl⟩ (by rw [y1a, hz]) fun b o x => y03 _ (y03 _ x)⟩
theorem z9a {it l : Addr} {i : Nat} {items} {x : Value} {Q : Value -> y04 -> Prop} (hit : s.heap.IsTupleIter it l i)
  (hl : s.heap.IsTuple l items) (hx : items[i]? = some x)
  (hQ : ∀ h', h'.IsTupleIter it l (i + 1) -> Heap.SameBut it s.heap h' -> Q x { s with heap := h' }) :
  y0v (model prog w) A (y0u (.ref it)) Q E s := by
 obtain ⟨o, ho, hc, hd⟩ := id hit
 obtain ⟨ol, hol, _, nl, hdl⟩ := hl
 unfold y0u
 refine y02 (wpAny_callSpecial?_slot (name := Str.ofString "__next__") hit.typeIs y2i
  (wpAny_call_entry y2i hit.typeIs F.entry_tuple_iterator_next ?_ (F.args_tuple_iterator_next_1 _)))
 show y0v _ _ (field (.ref it) 0 >>= _) _ _ s
 refine y02 (wpAny_field ho hd (x := .ref l) rfl ?_)
 show y0v _ _ (if (Value.ref l == Value.none) = true then _ else _) _ _ s
 rw [if_neg (show ¬ ((Value.ref l == Value.none) = true) from y2b)]
 show y0v _ _ (field (.ref it) 1 >>= _) _ _ s
 refine y02 (wpAny_field ho hd (x := .int i 0) rfl ?_)
 show y0v _ _ (seqItems? (.ref l) >>= _) _ _ s
 refine y02 (wpAny_seqItems hol hdl ?_)
 simp only [Int.toNat_natCast, hx]
 refine y02 (wpAny_setField ho hd (by simp) (y06 ⟨x, rfl, y06 (hQ _ ?_ (Heap.SameBut.update ..))⟩))
 exact ⟨_, Heap.get?_update_self _ ho (Obj.isFreed_of_fields (Obj.data_mapFields hd _)), (Obj.cls_mapFields ..).trans hc, by
  rw [Obj.data_mapFields hd]; simp [rawInt]⟩
theorem z6b {it l : Addr} {i : Nat} {items} {Q : Value -> y04 -> Prop} (hh : A.handled = none)
  (hit : s.heap.IsTupleIter it l i) (hl : s.heap.IsTuple l items) (hx : items[i]? = none)
  (hE : ∀ h' e, Heap.ExtBut it s.heap h' -> (∃ o, h'.get? e = some o /\ o.cls = .type "StopIteration") -> E (.ref e) { s with heap := h' }) :
  y0v (model prog w) A (y0u (.ref it)) Q E s := by
 obtain ⟨o, ho, hc, hd⟩ := id hit
 obtain ⟨ol, hol, _, nl, hdl⟩ := hl
 unfold y0u
 refine y02 (wpAny_callSpecial?_slot (name := Str.ofString "__next__") hit.typeIs y2i
  (wpAny_call_entry y2i hit.typeIs F.entry_tuple_iterator_next ?_ (F.args_tuple_iterator_next_1 _)))
 show y0v _ _ (field (.ref it) 0 >>= _) _ _ s
 refine y02 (wpAny_field ho hd (x := .ref l) rfl ?_)
 show y0v _ _ (if (Value.ref l == Value.none) = true then _ else _) _ _ s
 rw [if_neg (show ¬ ((Value.ref l == Value.none) = true) from y2b)]
 show y0v _ _ (field (.ref it) 1 >>= _) _ _ s
 refine y02 (wpAny_field ho hd (x := .int i 0) rfl ?_)
 show y0v _ _ (seqItems? (.ref l) >>= _) _ _ s
 refine y02 (wpAny_seqItems hol hdl ?_)
 simp only [Int.toNat_natCast, hx]
 refine y02 (wpAny_rule (y02 (wpAny_setField ho hd (by simp) ?_)))
 show y0v _ _ (newExc (.type "StopIteration") [] >>= _) _ _ _
 refine y02 ?_
 simp only [newExc, newTuple]
 refine y02 (wpAny_newObj_type ?_ (by size_fits))
 refine y02 (m := firstArgMember _ _) (wpAny_of_eq (a := Value.none) (by first | rfl | (simp only [firstArgMember]; rfl)) ?_)
 refine wpAny_newObj_type ?_ (by size_fits)
 simp only [raiseNew]
 refine y02 (wpAny_handled ?_)
 first | rw [show A.in1.handled = none from hh] | rw [hh]
 refine y02 (y06 (wpAny_throw ?_))
 exact hE _ _ (((Heap.SameBut.update ..).extBut.push _).push _) ⟨_, y0m _ rfl, rfl⟩
end
theorem zbf {prog : y0r} {w : World} {A : Around} (hh : A.handled = none) (it l : Addr) (hne : l ≠ it) (items : Array Value) :
  Draws prog w A it [it, l] items.size (fun i v => items[i]? = some v) (fun i h => h.IsTupleIter it l i /\ h.IsTuple l items) where
 live := fun _ _ st => let ⟨o, ho, _⟩ := st.1; ⟨o, ho⟩
 frame := fun _ _ _ st hk => ⟨st.1.at fun o e => hk it (by simp) o e, let ⟨o, ho, r⟩ := st.2; ⟨o, hk l (by simp) o ho, r⟩⟩
 item := fun i s Q E hi st hQ => by
  refine z9a st.1 st.2 (x := items[i]) (by simp [hi]) fun h' hit' hs' => ?_
  exact hQ _ h' s.toks (by simp [hi]) ⟨hit', st.2.extBut hs'.extBut hne⟩ hs'
 done := fun s Q E st hE => z6b hh st.1 st.2 (by simp) hE
def Ite (K : y00) (a : Addr) : It :=
 ⟨fun i H => ∃ xs x, SqT K H a xs /\ xs[i]? = some x, fun i H x H' => ∃ p v, H p = none /\ x = .ref p /\ H' = upd H p (.tup [.int i, v]) /\ ∀ xs, SqT K H a xs -> xs[i]? = some v, fun i H => ∃ xs, SqT K H a xs /\ xs.length <= i⟩
theorem zjs {P : y0r} {w : World} {K : y00} {es : List Expr} {k : Nat} {pos : Pos} (a it e : Addr) (hne : e ≠ it) (hai : a ≠ it) (hae : a ≠ e) : Turn P w K (.Tuple es k pos) (Ite K a) [e, it] e (fun i h => (∃ old, IsEnum h e it i old) /\ h.IsTupleIter it a i) where
 mem := by simp
 obj := fun i h st b hb => by
  obtain ⟨⟨old, he⟩, o, ho, hc, hd⟩ := st
  rcases y09.mp hb with rfl | hb
  ·exact ⟨_, he, fun v z => by
    have z' : Data.fields _ = Data.cell v := z
    cases z'⟩
  ·have e1 : b = it := by simpa using hb
   subst e1
   exact ⟨o, ho, fun v z => by rw [hd] at z; cases z⟩
 keep := fun i h h' st kk => by
  obtain ⟨⟨old, he⟩, st2⟩ := st
  exact ⟨⟨old, kk e (by simp) _ he⟩, st2.at fun o q => kk it (by simp) o q⟩
 item := by
  intro X hP hw hK hc i pins s σ H E I hf st hg
  subst hP hw hK
  obtain ⟨xs, x, hq, hx⟩ := hg
  obtain ⟨its, rv, p, hz⟩ := I.tuple hq
  obtain ⟨u, hu, ru⟩ := rv.get hx
  obtain ⟨⟨old, he⟩, hit⟩ := st
  obtain ⟨f0, f1, f2, f3, f4, f5⟩ := hf e (by simp)
  obtain ⟨g0, g1, g2, g3, g4, g5⟩ := hf it (by simp)
  have hi : i < its.toArray.size := by
   rw [y0i]
   exact (y0l.mp hu).1
  have hnf : e ∉ [it, a] := by
   intro z
   rcases y09.mp z with z | z
   ·exact hne z
   ·have z' : e = a := by simpa using z
    exact hae z'.symm
  refine wpAny_pyNext_enum_itemD (zbf (A := X.A.in1) (I.ok.hd hc) it a hai its.toArray) he ⟨hit, p⟩ hi hne hnf fun x' h' tk hP' ho hs' hT hsz hk => ?_
  have ex : x' = u := by
   have := hP'
   rw [<- Array.getElem?_toList] at this
   rw [show (its.toArray).toList = its from rfl, hu] at this
   exact (Option.some.inj this).symm
  subst ex
  refine ⟨_, rfl, wpAny_letOwnedTupleGo_enum ho fun h2 he2 hs2 => ?_⟩
  have helt : e < s.heap.objs.size := y0c he
  have hilt : it < s.heap.objs.size := by obtain ⟨o, ho', _⟩ := hit; exact y0c ho'
  have k2 : ∀ b o, b ≠ e -> b ≠ it -> s.heap.get? b = some o -> h2.get? b = some o := fun b o h1 h3 q => hs2.extBut b o h1 (hk b o h1 h3 q)
  have fr : H s.heap.objs.size = none := I.hok.fresh (y0p _)
  have hT2 : h2.get? s.heap.objs.size = some { cls := .type "tuple", data := .seq #[.int i tk, x'] } := hs2.extBut _ _ (y18 helt) hT
  have nH : ∀ b o, H b = some o -> b ≠ e /\ b ≠ it := fun b o q => ⟨fun z => (by rw [z, f0] at q; cases q), fun z => (by rw [z, g0] at q; cases q)⟩
  have hok2 : HOk X.prog X.w (upd H s.heap.objs.size (.tup [.int i, x])) h2 := by
   intro b o q
   by_cases hb : b = s.heap.objs.size
   ·subst hb
    rw [z0d] at q
    cases q
    exact ⟨by show 2 <= y0k; decide, [.int i tk, x'], .cons ⟨tk, rfl⟩ (.cons ru .nil), ⟨_, hT2, rfl, _, rfl⟩⟩
   ·rw [z0j hb] at q
    refine (I.hok b o q).stay (fun c v hc' q' => k2 c v ?_ ?_ q') (fun c q' => ?_) fun c ys q' => ?_
    ·rcases hc' with rfl | hc'
     ·exact (nH _ _ q).1
     ·exact (nH _ _ hc').1
    ·rcases hc' with rfl | hc'
     ·exact (nH _ _ q).2
     ·exact (nH _ _ hc').2
    ·rw [z0j (z2c q' fr)]
     exact q'
    ·rw [z0j (z2c q' fr)]
     exact q'
  have I2 : L2.Inv X pins σ (upd H s.heap.objs.size (.tup [.int i, x])) { s with heap := h2, toks := tk + 1 } := by
   refine I.step (g' := s.gens) (d' := s.drawn) (ch := [e, it]) (fun b hb => ?_) (fun b o _ _ hc' q _ => k2 b o (fun z => hc' (by simp [z])) (fun z => hc' (by simp [z])) q) (fun b o _ _ hc' q _ => ⟨o.slots, k2 b o (fun z => hc' (by simp [z])) (fun z => hc' (by simp [z])) q⟩) (fun b o _ q n => ?_)
    (fun b o hc' q => ⟨o, k2 b o (fun z => hc' (by simp [z])) (fun z => hc' (by simp [z])) q⟩) (fun b ys q => by rw [z0j (z2c q fr)]; exact q) (fun b o u q => by rw [z0j (z2c q fr)]; exact q) (fun b ps q => ⟨#[], by rw [z0j (z2c q fr), q]; simp⟩) (fun m hm => ?_) hok2 I.bare
   ·rcases y09.mp hb with rfl | hb
    ·exact ⟨f3, f1, f4, f5⟩
    ·have : b = it := by simpa using hb
     subst this
     exact ⟨g3, g1, g4, g5⟩
   ·rw [z0j (y10 (y0c q))]
    exact n
   ·obtain ⟨o, es', ep, ho', r⟩ := hm
    exact ⟨o, es', ep, k2 _ o (Ne.symm f1) (Ne.symm g1) ho', r⟩
  refine ⟨.ref s.heap.objs.size, _, I2, rfl, ⟨s.heap.objs.size, x, fr, rfl, rfl, fun ys hy => by rw [I.tuple_inj hy hq]; exact hx⟩, ⟨⟨_, by simpa using he2⟩, hs'.1.at fun o q => (hs2.2 it hne.symm).trans q⟩, fun b hb => ?_⟩
  rcases y09.mp hb with rfl | hb
  ·rw [z0j (y10 helt)]
   exact f0
  ·have : b = it := by simpa using hb
   subst this
   rw [z0j (y10 hilt)]
   exact g0
 done := by
  intro X hP hw hK hc i pins s σ H E I hf st hg
  subst hP hw hK
  obtain ⟨xs, hq, hx⟩ := hg
  obtain ⟨its, rv, p, hz⟩ := I.tuple hq
  obtain ⟨⟨old, he⟩, hit⟩ := st
  obtain ⟨g0, g1, g2, g3, g4, g5⟩ := hf it (by simp)
  have hT : s.TypeIs (.ref e) "enumerate" := ⟨_, he, rfl⟩
  have hl := rv.length
  unfold pyNext
  refine y02 (wpAny_attempt (wpAny_callSpecial?_slot (name := Str.ofString "__next__") hT F.slot_enumerate_next
   (wpAny_call_entry F.slot_enumerate_next hT F.entry_enumerate_next ?_ (F.args_enumerate_next_1 _))))
  show y0v _ _ (field (.ref e) 2 >>= _) _ _ _
  refine y02 (wpAny_field he rfl (x := .ref it) rfl ?_)
  refine y02 (z6b (I.ok.hd hc) hit (show s.heap.IsTuple a its.toArray from p) (by simp; omega) fun h' x he' hx' => ?_)
  obtain ⟨o, ho, hc'⟩ := hx'
  refine y02 (wpAny_isInstance (T := "StopIteration") (b := true) ⟨o, ho, hc'⟩ isSubtype_stop ?_)
  exact y06 ⟨rfl, I.turned (t' := s.toks) (fun b o hb q => he' b o hb q) g0 g1 g3 g4 g5⟩
 self := fun _ _ _ _ _ st h => by
  obtain ⟨⟨old, he⟩, _⟩ := st
  exact wpAny_pyIter_enum he h
def iEn (K : y00) (ta : TA) : TI := fun σ H R => ta σ H fun vs H1 => ∃ a xs, vs = [.ref a] /\ SqT K H1 a xs /\ R (Ite K a) H1
section
variable {X : Cx} {es : List Expr} {k : Nat} {p pos p2 : Pos} {a : Expr} {f : Fe}
theorem zpc {ta : TA} (hg : Gl X "enumerate") (hm : X.mg "enumerate" = none) (ha : PA X [a] ta) (hs : y0a [a] X.env = [(false, eval a X.env)] := by rfl) : PI X (.Tuple es k p2) (.Call (.Name "enumerate" p) [a] [] pos) (iEn X.K ta) := by
 intro pins s σ H R I h
 refine Call_ (zcs I hg hm PyProof.Rows.boot_enumerate (y1z (thn (ha pos pins s σ H _ I h) fun us s1 ⟨vs, H1, I1, r1, q1⟩ => ?_) hs rfl))
 obtain ⟨a, xs, rfl, hq, q⟩ := q1
 cases r1 with
 | cons r rr =>
  cases rr
  cases r
  obtain ⟨its, rv, pl, hz⟩ := I1.tuple hq
  have hal : a < s1.heap.objs.size := by obtain ⟨o, ho, _⟩ := pl; exact y0c ho
  refine z7b (show s1.heap.IsTuple a its.toArray from pl) fun h' he hit hsz hk => wpAny_pyIter_enum he ?_
  refine ⟨s1.heap.objs.size + 1, [s1.heap.objs.size + 1, s1.heap.objs.size], _, _, H1, rfl, I1.kept (t' := s1.toks) hk, zjs a s1.heap.objs.size (s1.heap.objs.size + 1) (Nat.succ_ne_self _) (y10 hal) (y10 (Nat.lt_succ_of_lt hal)), ⟨⟨_, he⟩, hit⟩, fun b hb => ?_, q⟩
  have hb' : s1.heap.objs.size <= b := by
   rcases y09.mp hb with rfl | hb
   ·exact Nat.le_succ _
   ·have : b = s1.heap.objs.size := by simpa using hb
    rw [this]
    exact y0p _
  exact I1.fpOk hb' (I1.hok.fresh hb')
theorem zl8 {K : y00} {a : Addr} {F1 : Addr -> Prop} {H1 : Hp} {ts : List T} {vs : List V} (hr : SqT K H1 a vs) (q : RepL K F1 H1 ts vs) : ItOk K (Ite K a) F1 H1 (enum ts) where
 go := fun i F H t kp d e => by
  have hi := (y0l.mp e).1
  simp only [enum, y16, List.length_zipIdx] at hi
  obtain ⟨v, h1, _⟩ := q.get (y0w hi)
  exact ⟨vs, v, kp.tup _ _ hr, h1⟩
 yld := fun i F H t x H' kp d e y => by
  obtain ⟨p, v, hp, rfl, rfl, y⟩ := y
  have hi := (y0l.mp e).1
  simp only [enum, y16, List.length_zipIdx] at hi
  obtain ⟨v', h1, h2⟩ := (q.kp kp).get (y0w hi)
  have h3 := y vs (kp.tup _ _ hr)
  rw [h1] at h3
  cases h3
  have x1 := Ext.laid (o := .tup [.int i, v]) d hp
  refine ⟨F, x1, ?_⟩
  have et : t = .tuple [.int i, ts[i]] := by
   simp only [enum, y17, List.getElem?_zipIdx, y0w hi] at e
   simpa using e.symm
  subst et
  simp only [Rep]
  exact ⟨p, _, rfl, SqT.of z0d, RepL.cons (by simp [Rep]) (RepL.cons (h2.ext x1) RepL.nil)⟩
 stop := fun i F H kp hl => ⟨vs, kp.tup _ _ hr, by
  simp only [enum, y16, List.length_zipIdx] at hl
  rw [<- q.length]
  exact hl⟩
theorem zoh (hm : X.mg "enumerate" = none) (ha : PEv X a f) (hg : Gl X "enumerate" := by rfl) (hs : y0a [a] X.env = [(false, eval a X.env)] := by rfl) (hs2 : y0a [a] X.env = (false, eval a X.env) :: y0a [] X.env := by rfl) :
  PIt X (.Tuple es k p2) (.Call (.Name "enumerate" p) [a] [] pos) (z6c (z9z f)) := zm4 (zpc hg hm (z49 ha z6l hs2) hs) fun σ H R ⟨F₀, H₀, O, F, ε, ts, r, e, k⟩ => by
 simp only [z6c, z9z, y07, y01] at e
 obtain ⟨us, ⟨t, et, e⟩, rfl⟩ := e
 split at e
 ·cases e
  refine ⟨F₀, H₀, O, F, ε, _, r, et, fun v F' H' x q => ?_⟩
  simp only [Rep] at q
  obtain ⟨a, vs, rfl, hs, hr⟩ := q
  exact ⟨a, vs, rfl, hs, k _ F' H' x (zl8 hs hr)⟩
 ·cases e
end
end D
end
section
namespace D
open PySem PySem.Spec PyProof.Rows L2
variable [Tbl]
structure Cl (P : y0r) (w : World) (K : y00) (mg : Str -> Option Value) (base : Heap) (x : Str) (k n : Nat) (d : List T -> Option T) : Prop where
 ex : ∃ fa fd ps, FnOk P w K mg base CX0 k fa fd ps (spT K n d) /\ mg x = some (.ref fa) /\ y08 K (.ref fa) = true /\ z15 K fd ps []
section
variable {P : y0r} {w : World} {K : y00} {mg : Str -> Option Value} {base : Heap} {x : Str} {k n : Nat} {d : List T -> Option T}
theorem Cl.mono {j : Nat} (c : Cl P w K mg base x j n d) (h : j <= k) : Cl P w K mg base x k n d := by
 obtain ⟨fa, fd, ps, F, r⟩ := c.ex
 exact ⟨fa, fd, ps, F.mono h, r⟩
theorem Cl.mk' {fa : Addr} {fd : y0b} {ps : List Str} (F : FnOk P w K mg base CX0 k fa fd ps (spT K n d)) (m : mg x = some (.ref fa)) (kp : y08 K (.ref fa) = true) (b : z15 K fd ps []) : Cl P w K mg base x k n d := ⟨fa, fd, ps, F, m, kp, b⟩
end
section
variable {X : Cx} {k n : Nat} {d : List T -> Option T} {x : Str} {p pos : Pos} {e : Expr} {es : List Expr} {fs : List Fe}
theorem z2b (C : Cl X.prog X.w X.K X.mg X.base x k n d) (hr : Room k X.A) (ha : PAv X (e :: es) fs) (hg : Gl X x := by rfl) (hn : fs.length = n := by rfl) (hdb : (x == ("__debug__" : Str)) = false := by decide)
  (he : y0a (e :: es) X.env = (false, eval e X.env) :: y0a es X.env := by rfl) (hpl : (backTo pos (y0a es X.env)).any (·.1) = false := by rfl) : PEv X (.Call (.Name x p) (e :: es) [] pos) (opN d fs) := by
 obtain ⟨fa, fd, ps, F, m, kp, b⟩ := C.ex
 exact zr2 F hr hg m kp b ha hn hdb he hpl
theorem q_gI {i : Int} {t : Tok} (hm : X.mg x = some (.int i t)) (hg : Gl X x := by rfl) (hd : (x == ("__debug__" : Str)) = false := by decide) : PEv X (.Name x pos) (cst (.int i)) := zij (v := .int i) (zkp (v := .int i) hg hm ⟨t, rfl⟩ hd) fun _ _ => by simp [Rep]
def zs2 (scope sc : Scope) (N : List Str) (caps : List (Nat × Str)) : Bool :=
 decide (scope.kind = .function) && scope.names.all (fun y => (decide (y.2 ≠ .local) || decide (scope.names.lookup y.1 = some .local)) && decide (y.2 ≠ .cell) && (decide (y.2 ≠ .free) || decide (sc.names.lookup y.1 = some .cell) || decide (sc.names.lookup y.1 = some .free)))
  && caps.all (fun q => decide (N[q.1]? = some q.2) && decide (scope.names.lookup q.2 = some .free)) && decide ((caps.map (·.1)).Nodup)
theorem z6d {scope sc : Scope} {own : List Str} {caps : List (Nat × Str)} (N : List Str) (hsc : X.env.scope = sc) (hN : X.N = N) (hc : X.calm = true) (h : zs2 scope sc N caps = true) : CompOk X scope own caps := by
 simp only [zs2, y1e, List.all_eq_true, decide_eq_true_eq, Bool.or_eq_true] at h
 obtain ⟨⟨⟨h1, h2⟩, h3⟩, h4⟩ := h
 refine ⟨h1, fun y hy hl => ?_, fun y hy => (h2 y hy).1.2, fun y hy hf => ?_, fun q hq => by rw [hN]; exact h3 q hq, h4, hc⟩
 ·rcases (h2 y hy).1.1 with z | z
  ·exact absurd hl z
  ·exact z
 ·have hk : X.env.kindOf y.1 = sc.names.lookup y.1 := by rw [<- hsc]; rfl
  rw [hk]
  rcases (h2 y hy).2 with (z | z) | z
  ·exact absurd hf z
  ·exact .inl z
  ·exact .inr z
end
theorem za0 {P : y0r} {w : World} {K : y00} {mg : Str -> Option Value} {base : Heap} {x : Str} {st : Stmt} {f : Addr} {fd : y0b} {N ps : List Str} {k : Nat} {b : Fs} (F : Fun K x x st f fd) (S : FnScope N ps (z01 st)) (bd : z15 K fd ps []) (m : mg x = some (.ref f))
  (hb : ∀ (cdv : Value) (A : Around) (outer : List Env) (s : y04) (H : Hp) (E : XK), Room k (A.deeper (envOfC x (z01 st) s.heap.objs.size f cdv)) ->
   PBt (cxOf CX0 P w K mg base N x (z01 st) f cdv A outer s H E).nox (z0a st) b) : Cl P w K mg base x (k + 1) ps.length (runF b N.length) := .mk' (zoj F S hb) m F.kp bd
end D
end
section
namespace L2
open PySem PySem.Spec PyProof.Rows
section
variable {κ : Type} [DecidableEq κ]
def valV (kvs : List (κ × V)) (k : κ) : Option V := (kvs.find? fun kv => decide (kv.1 = k)).map (·.2)
def putK (kvs : List (κ × V)) (k : κ) (v : V) : List (κ × V) :=
 if (kvs.any fun kv => decide (kv.1 = k)) = true then kvs.map (fun kv => if kv.1 = k then (kv.1, v) else kv) else kvs ++ [(k, v)]
theorem zd2 {p : κ × V} {r : List (κ × V)} {k : κ} (e : p.1 = k) : valV (p :: r) k = some p.2 := by simp [valV, y1x, e]
theorem zd3 {p : κ × V} {r : List (κ × V)} {k : κ} (e : ¬ p.1 = k) : valV (p :: r) k = valV r k := by simp [valV, y1x, e]
theorem zhg (k : κ) : ∀ kvs : List (κ × V), (kvs.any fun kv => decide (kv.1 = k)) = (valV kvs k).isSome
 | [] => rfl
 | p :: r => by
  rw [List.any_cons]
  by_cases e : p.1 = k
  ·simp only [zd2 e, decide_eq_true e, Bool.true_or, Option.isSome_some]
  ·rw [zd3 e, decide_eq_false e, Bool.false_or]; exact zhg k r
theorem zb3 (kvs : List (κ × V)) (k : κ) (v : V) : (putK kvs k v).length <= kvs.length + 1 := by
 unfold putK
 split
 ·rw [y16]; omega
 ·rw [y2a, y0x, List.length_nil]; omega
theorem RelO.isSome_eq {o : Option V} {u : Option Value} (r : RelO o u) : o.isSome = u.isSome := by
 cases o with
 | none => cases u with
  | none => rfl
  | some _ => exact (show False from r).elim
 | some _ => cases u with
  | none => exact (show False from r).elim
  | some _ => rfl
theorem KV.val {kvs : List (κ × V)} {vs : List (κ × Value)} (r : KV kvs vs) (k : κ) : RelO (valV kvs k) (valueAt vs k) := by
 unfold KV at r
 induction r with
 | nil => exact True.intro
 | @cons p q ps qs h t ih =>
  obtain ⟨h1, h2⟩ := h
  by_cases e : p.1 = k
  ·have e' : q.1 = k := h1.symm.trans e
   have b : valueAt (q :: qs) k = some q.2 := by simp [valueAt, y1x, e']
   rw [zd2 e, b]; exact h2
  ·have e' : ¬ q.1 = k := fun z => e (h1.trans z)
   have b : valueAt (q :: qs) k = valueAt qs k := by simp [valueAt, y1x, e']
   rw [zd3 e, b]; exact ih
theorem KV.any {kvs : List (κ × V)} {vs : List (κ × Value)} (r : KV kvs vs) (k : κ) : (kvs.any fun kv => decide (kv.1 = k)) = vs.any fun kv => decide (kv.1 = k) := by
 unfold KV at r
 induction r with
 | nil => rfl
 | cons h t ih => rw [List.any_cons, List.any_cons, ih, h.1]
theorem KV.repl {kvs : List (κ × V)} {vs : List (κ × Value)} (r : KV kvs vs) (k : κ) {y : V} {u : Value} (ry : RelV y u) :
  KV (kvs.map fun kv => if kv.1 = k then (kv.1, y) else kv) (vs.map fun kv => if kv.1 = k then (kv.1, u) else kv) := by
 unfold KV at r ⊢
 induction r with
 | nil => exact .nil
 | @cons p q ps qs h t ih =>
  rw [y0e, y0e]
  refine .cons ?_ ih
  obtain ⟨h1, h2⟩ := h
  by_cases e : p.1 = k
  ·rw [if_pos e, if_pos (h1.symm.trans e)]; exact ⟨h1, ry⟩
  ·rw [if_neg e, if_neg (fun z => e (h1.trans z))]; exact ⟨h1, h2⟩
theorem KV.put {kvs : List (κ × V)} {vs : List (κ × Value)} (r : KV kvs vs) (k : κ) {y : V} {u : Value} (ry : RelV y u) : KV (putK kvs k y) (stored vs k u) := by
 unfold putK stored
 rw [r.any k]
 by_cases e : (vs.any fun kv => decide (kv.1 = k)) = true
 ·rw [if_pos e, if_pos e]; exact r.repl k ry
 ·rw [if_neg e, if_neg e]; exact Paired.snoc r ⟨rfl, ry⟩
theorem KV.length {kvs : List (κ × V)} {vs : List (κ × Value)} (r : KV kvs vs) : kvs.length = vs.length := Paired.length r
end
theorem zna {P : y0r} {w : World} {k : Key} {u : Value} (r : RelV (kV k) u) : (z1m P w).is k u = true := by
 cases k with
 | inl i => obtain ⟨t, e⟩ := (show ∃ t, u = Value.int i t from r); subst e; exact zaz P w i t
 | inr x => obtain ⟨t, e⟩ := (show ∃ t, u = Value.str x t from r); subst e; exact zay P w x t
theorem zf8 {P : y0r} {w : World} : ∀ {ks : List Key} {us : List Value}, Vals (ks.map kV) us -> ItemsAre (z1m P w) ks us
 | [], _, r => by rw [y1c] at r; cases r; exact .nil
 | k :: ks, _, r => by
  rw [y0e] at r
  cases r with
  | cons h t => exact .cons (zna h) (zf8 t)
abbrev KT (H : Hp) : List (List Key × V) -> List (List Key × Addr × Value) -> Prop := Paired fun p q => p.1 = q.1 /\ H q.2.1 = some (.tup (p.1.map kV)) /\ RelV p.2 q.2.2
theorem KT.val {H : Hp} {kvs : List (List Key × V)} {xs : List (List Key × Addr × Value)} (r : KT H kvs xs) (k : List Key) : RelO (valV kvs k) ((atKey xs k).map (·.2)) := by
 induction r with
 | nil => exact True.intro
 | @cons p q ps qs h t ih =>
  obtain ⟨h1, _, h2⟩ := h
  by_cases e : p.1 = k
  ·have e' : q.1 = k := h1.symm.trans e
   have b : atKey (q :: qs) k = some q.2 := by simp [atKey, y1x, e']
   rw [zd2 e, b]; exact h2
  ·have e' : ¬ q.1 = k := fun z => e (h1.trans z)
   have b : atKey (q :: qs) k = atKey qs k := by simp [atKey, y1x, e']
   rw [zd3 e, b]; exact ih
theorem KT.repl {H : Hp} {kvs : List (List Key × V)} {xs : List (List Key × Addr × Value)} (r : KT H kvs xs) (k : List Key) {y : V} {u : Value} (ry : RelV y u) :
  KT H (kvs.map fun kv => if kv.1 = k then (kv.1, y) else kv) (xs.map (putAt k u)) := by
 induction r with
 | nil => exact .nil
 | @cons p q ps qs h t ih =>
  rw [y0e, y0e]
  refine .cons ?_ ih
  obtain ⟨h1, h2, h3⟩ := h
  unfold putAt
  by_cases e : p.1 = k
  ·rw [if_pos e, if_pos (h1.symm.trans e)]; exact ⟨h1, h2, ry⟩
  ·rw [if_neg e, if_neg (fun z => e (h1.trans z))]; exact ⟨h1, h2, h3⟩
theorem KT.put {H : Hp} {kvs : List (List Key × V)} {xs : List (List Key × Addr × Value)} (r : KT H kvs xs) (k : List Key) {b : Addr} {y : V} {u : Value} (hb : H b = some (.tup (k.map kV))) (ry : RelV y u) :
  KT H (putK kvs k y) (storedH xs k b u) := by
 have e : (kvs.any fun kv => decide (kv.1 = k)) = (atKey xs k).isSome := by
  rw [zhg, (r.val k).isSome_eq, Option.isSome_map]
 unfold putK storedH
 rw [e]
 by_cases q : (atKey xs k).isSome = true
 ·rw [if_pos q, if_pos q]; exact r.repl k ry
 ·rw [if_neg q, if_neg q]; exact Paired.snoc r ⟨rfl, hb, ry⟩
theorem KT.keeps {H H' : Hp} {kvs : List (List Key × V)} {xs : List (List Key × Addr × Value)} (r : KT H kvs xs) (ht : ∀ b ys, H b = some (.tup ys) -> H' b = some (.tup ys)) : KT H' kvs xs :=
 Paired.mapP r fun _ _ z => ⟨z.1, ht _ _ z.2.1, z.2.2⟩
section
variable {P : y0r} {w : World} {H : Hp} {h : Heap} {a : Addr}
theorem zqw {u : HO} (ok : HOk P w H h) (e : Rd H a u) : z5b P w H h a u := e.ok ok
theorem zqa {kvs : List (Key × V)} (ok : HOk P w H h) (e : Rd H a (.dK kvs)) : kvs.length <= y0k /\ (a == sysModules) = false /\ ∃ vs, KV kvs vs /\ h.DictOf (z1m P w) a vs :=
 show z5b P w H h a (.dK kvs) from zqw ok e
theorem ztc {kvs : List (Key × V)} (ok : HOk P w H h) (e : H a = some (.dK kvs)) : kvs.length <= y0k /\ (a == sysModules) = false /\ ∃ vs, KV kvs vs /\ h.DictOf (z1m P w) a vs := zqa ok (.inl e)
theorem zl4 {ks : List Key} (ok : HOk P w H h) (e : H a = some (.tup (ks.map kV))) : (tupleKind (z1m P w)).is h ks a := by
 obtain ⟨_, its, r, o, h1, h2, n, h3⟩ := (show z5b P w H h a (.tup (ks.map kV)) from ok a _ e)
 exact ⟨o, its.toArray, n, h1, h2, h3, by simpa using zf8 r⟩
theorem zq9 {kvs : List (List Key × V)} (ok : HOk P w H h) (e : Rd H a (.dT kvs)) : kvs.length <= y0k /\ (a == sysModules) = false /\
  ∃ xs, KT H kvs xs /\ h.DictOfH (tupleKind (z1m P w)) a xs := by
 obtain ⟨z, y, xs, r, o, es, ep, h1, h2, h3, h4, h5⟩ := (show z5b P w H h a (.dT kvs) from zqw ok e)
 refine ⟨z, y, xs, r, o, es, ep, h1, h2, h3, h4, fun x hx => ?_, h5⟩
 have all : ∀ {l : List (List Key × V)} {m : List (List Key × Addr × Value)}, KT H l m -> ∀ x ∈ m, (tupleKind (z1m P w)).is h x.1 x.2.1 := by
  intro l m q
  induction q with
  | nil => intro x hx; exact nomatch hx
  | @cons p q ps qs hq t ih =>
   intro x hx
   rcases y09.mp hx with e | hx
   ·subst e
    exact zl4 ok (by rw [<- hq.1]; exact hq.2.1)
   ·exact ih x hx
 exact all r x hx
theorem ztb {kvs : List (List Key × V)} (ok : HOk P w H h) (e : H a = some (.dT kvs)) : kvs.length <= y0k /\ (a == sysModules) = false /\
  ∃ xs, KT H kvs xs /\ h.DictOfH (tupleKind (z1m P w)) a xs := zq9 ok (.inl e)
end
def DGet (H : Hp) (a : Addr) (y : V) (r : Option V) : Prop :=
 (∃ kvs k, Rd H a (.dK kvs) /\ y = kV k /\ r = valV kvs k) \/ ∃ kvs k b, Rd H a (.dT kvs) /\ y = .ref b /\ H b = some (.tup (k.map kV)) /\ r = valV kvs k
def DPut (H : Hp) (a : Addr) (y v : V) (H' : Hp) : Prop :=
 (∃ kvs k, H a = some (.dK kvs) /\ y = kV k /\ kvs.length < y0k /\ H' = upd H a (.dK (putK kvs k v))) \/
 ∃ kvs k b, H a = some (.dT kvs) /\ y = .ref b /\ H b = some (.tup (k.map kV)) /\ kvs.length < y0k /\ H' = upd H a (.dT (putK kvs k v))
theorem DGet.k {H : Hp} {a : Addr} {kvs : List (Key × V)} {k : Key} (e : H a = some (.dK kvs)) : DGet H a (kV k) (valV kvs k) := .inl ⟨kvs, k, .inl e, rfl, rfl⟩
theorem DPut.k {H : Hp} {a : Addr} {kvs : List (Key × V)} {k : Key} {v : V} (e : H a = some (.dK kvs)) (hl : kvs.length < y0k) : DPut H a (kV k) v (upd H a (.dK (putK kvs k v))) := .inl ⟨kvs, k, e, rfl, hl, rfl⟩
section
variable {X : Cx} {pins : List (Addr × Obj)} {σ : St} {H : Hp} {s : y04} {a : Addr} {y v : V} {u r : Value} {o : Option V} {A : Around} {E : Value -> y04 -> Prop}
theorem Inv.big (I : Inv X pins σ H s) : sysModules < s.heap.objs.size := by
 have h : y0o < s.heap.objs.size := (I.mod.glob.keeps I.bk).lt
 exact Nat.lt_trans (by decide) h
theorem zfj {Q : Value -> y04 -> Prop} (hu : A.units + 1 < cLine) (I : Inv X pins σ H s) (g : DGet H a y (some v)) (ry : RelV y u) (h : ∀ w' s', Inv X pins σ H s' -> RelV v w' -> Q w' s') :
  y0v (model X.prog X.w) A (getItem (.ref a) u) Q E s := by
 rcases g with ⟨kvs, k, e, ey, l⟩ | ⟨kvs, k, b, e, ey, eb, l⟩
 ·subst ey
  obtain ⟨z, hd, vs, rel, dd⟩ := zqa I.hok e
  obtain ⟨w', hw, rw'⟩ := RelO.some_of (v := v) (o := valueAt vs k) (by rw [l]; exact rel.val k)
  exact wpAny_getItem_of (zna ry) dd.mapOf hw (h w' _ (I.tok _) rw')
 ·subst ey
  cases (show u = Value.ref b from ry)
  obtain ⟨z, hd, xs, rel, dd⟩ := zq9 I.hok e
  obtain ⟨w', hw, rw'⟩ := RelO.some_of (v := v) (o := (atKey xs k).map (·.2)) (by rw [l]; exact rel.val k)
  obtain ⟨p, hp, hp2⟩ := y07.mp hw
  refine wpAny_getItem_heap (tupleKind_room_in1 hu) (zl4 I.hok eb) dd hp ?_
  rw [hp2]
  exact h w' _ (I.tok _) rw'
theorem zlo {h' : Heap} {t' : Nat} {ob : HO} (I : Inv X pins σ H s) (mu : Mut (H a)) (hs : Heap.SameBut a s.heap h') (he : ∃ q, h'.get? a = some q) (new : z5b X.prog X.w (upd H a ob) h' a ob) :
  Inv X pins σ (upd H a ob) { s with heap := h', toks := t' } :=
 I.write (x := a) (e := a) mu (.inl rfl) (fun b q hb z => (hs.2 b hb).trans z) he new
theorem zs0 {P : y0r} {w : World} {H' : Hp} {h' : Heap} {kvs : List (Key × V)} {vs : List (Key × Value)} (z : kvs.length <= y0k) (hd : (a == sysModules) = false) (rel : KV kvs vs) (dd : h'.DictOf (z1m P w) a vs) :
  z5b P w H' h' a (.dK kvs) := ⟨z, hd, vs, rel, dd⟩
theorem zfi {H' : Hp} {Q : Unit -> y04 -> Prop} (hu : A.units + 1 < cLine) (I : Inv X pins σ H s) (g : DPut H a y v H') (ry : RelV y u) (rv : RelV v r) (h : ∀ s', Inv X pins σ H' s' -> Q () s') :
  y0v (model X.prog X.w) A (setItem (.ref a) u r) Q E s := by
 rcases g with ⟨kvs, k, e, ey, l, eH⟩ | ⟨kvs, k, b, e, ey, eb, l, eH⟩
 ·subst ey eH
  obtain ⟨z, hd, vs, rel, dd⟩ := ztc I.hok e
  have hz : vs.length <= y0k := by rw [<- rel.length]; exact z
  have hl : (putK kvs k v).length <= y0k := by have := zb3 kvs k v; omega
  refine wpAny_setItem_pairs (hsz := hz) (zna ry) dd fun h' dd' hs => h _ ?_
  have he : ∃ q, h'.get? a = some q := let ⟨q, _, _, hq, _⟩ := dd'; ⟨q, hq⟩
  exact zlo I (by rw [e]; exact True.intro) hs he (zs0 hl hd (rel.put k rv) dd')
 ·subst ey eH
  cases (show u = Value.ref b from ry)
  obtain ⟨z, hd, xs, rel, dd⟩ := ztb I.hok e
  have hz : xs.length <= y0k := by rw [<- Paired.length rel]; exact z
  have hl : (putK kvs k v).length <= y0k := by have := zb3 kvs k v; omega
  refine wpAny_setItem_heap (hsz := hz) (tupleKind_room_in1 hu) (zl4 I.hok eb) dd fun h' dd' hs => h _ ?_
  obtain ⟨q, es, ep, hq, h2, h3, h4, _, h5⟩ := dd'
  refine zlo I (by rw [e]; exact True.intro) hs ⟨q, hq⟩ ⟨hl, hd, _, (rel.put k eb rv).keeps fun c ys ec => ?_, q, es, ep, hq, h2, h3, h4, h5⟩
  rw [z0j (zt5 ec e (fun z => nomatch z))]
  exact ec
end
section
variable {X : Cx} {pins : List (Addr × Obj)} {σ : St} {H : Hp} {s : y04} {a : Addr} {kvs : List (Key × V)} {k : Key} {u : Value} {A : Around} {E : Value -> y04 -> Prop}
end
def NoSl (i : Expr) : Prop := ∀ ov iv, subscripted i false ov iv = operate [ov, iv] (getItem ov iv)
theorem zor {prog : y0r} {w : World} {A : Around} {E : Value -> y04 -> Prop} {s : y04} {env : Env} {value slice : Expr} {pos : Pos} {T id : String} {Q : Value -> y04 -> Prop}
  (hl : typeLookup (.type T) "__getitem__" = pure (some (.builtin id))) (hs : NoSl slice)
  (h : y0v (model prog w) A (eval value env) (fun o s₁ => y0v (model prog w) A (eval slice env) (fun i s₂ => s₂.TypeIs o T /\ y0v (model prog w) A (getItem o i) Q E s₂) E s₁) E s) :
  y0v (model prog w) A (eval (.Subscript value slice pos) env) Q E s := by
 refine Subscript_ (y1g h (fun o s₁ h₁ => y1g h₁ (fun i s₂ h₂ => ?_) fun _ _ x => x) fun _ _ x => x)
 obtain ⟨hT, h₂⟩ := h₂
 unfold subscriptTail
 refine y02 ?_
 rw [getitemInPython_of_ne hT.not_modules]
 refine y02 (wpAny_specialOf hT hl ?_)
 have fin : y0v (model prog w) A (subscripted slice false o i) (fun r s₃ => y0v (model prog w) A (letTemporaryGo value o r >>= fun _ => pure r) Q E s₃) E s₂ := by
  rw [hs o i]
  exact wpAny_operating (y1g h₂ (fun r s₃ h₃ => y02 (wpAny_letTemporaryGo (y06 h₃))) fun _ _ x => x)
 first
  | exact y06 (y02 fin)
  | exact y02 (y06 (y02 fin))
  | exact y02 fin
theorem zh5 {X : Cx} {pins : List (Addr × Obj)} {σ : St} {H : Hp} {s : y04} {a : Addr} {y : V} {o : Option V} (I : Inv X pins σ H s) (g : DGet H a y o) : s.TypeIs (.ref a) "dict" := by
 rcases g with ⟨kvs, k, e, _, _⟩ | ⟨kvs, k, b, e, _, _, _⟩
 ·obtain ⟨_, _, vs, _, dd⟩ := zqa I.hok e
  exact dd.typeIs
 ·obtain ⟨_, _, xs, _, dd⟩ := zq9 I.hok e
  exact dd.typeIs
def zsg (td ty : TE) : TE := fun σ H Q => td σ H fun x H1 => ty σ H1 fun y H2 => ∃ a v, x = .ref a /\ DGet H2 a y (some v) /\ Q v H2
def zsm (td ty tv : TE) : TS := fun D σ H => tv σ H fun v H1 => td σ H1 fun x H2 => ty σ H2 fun y H3 => ∃ a H4, x = .ref a /\ DPut H3 a y v H4 /\ D.nx σ H4
def zsn (td ty tv : TE) (rd : V -> V -> Hp -> VK -> Prop) : TS := fun D σ H => td σ H fun x H1 => ty σ H1 fun y H2 => ∃ a v, x = .ref a /\ DGet H2 a y (some v) /\
 tv σ H2 fun y2 H3 => rd v y2 H3 fun z H4 => ∃ H5, DPut H4 a y z H5 /\ D.nx σ H5
section
variable {X : Cx} {o i e value : Expr} {pos pos' tpos : Pos} {td ty tv : TE}
theorem zpg (hu : X.A.units + 1 < cLine) (ho : PE X o td) (hi : PE X i ty) (hs : NoSl i) : PE X (.Subscript o i pos) (zsg td ty) := by
 intro pins s σ H Q I h
 refine zor PySem.F.slot_dict_getitem.lookup hs (thn (ho pins s σ H _ I h) fun u s1 ⟨x, H1, I1, rx, q1⟩ => thn (hi pins s1 σ H1 _ I1 q1) fun iv s2 ⟨y, H2, I2, ry, a, v, ex, g, q2⟩ => ?_)
 subst ex
 obtain rfl : u = Value.ref a := rx
 exact ⟨zh5 I2 g, zfj hu I2 g ry fun w' s3 I3 rw' => ⟨v, H2, I3, rw', q2⟩⟩
theorem zp7 (hu : X.A.units + 1 < cLine) (ho : PE X o td) (hi : PE X i ty) (hv : PE X value tv) (hs : swapsWith value (some (.Subscript o i pos')) pos.line X.env = pure false) :
  PS X (.Assign [.Subscript o i pos'] value pos) (zsm td ty tv) := by
 intro pins s σ H D I h
 refine wpAny_Assign_Subscript (thn (hv pins s σ H _ I h) fun r s1 ⟨v, H1, I1, rv, q1⟩ => thn (ho pins s1 σ H1 _ I1 q1) fun u s2 ⟨x, H2, I2, rx, q2⟩ => thn (hi pins s2 σ H2 _ I2 q2) fun iv s3 ⟨y, H3, I3, ry, a, H4, ex, g, q3⟩ => ?_) hs
 subst ex
 obtain rfl : u = Value.ref a := rx
 exact zfi hu I3 g ry rv fun s4 I4 => ⟨σ, H4, I4, q3⟩
theorem zp8 {op : Operator} {rd : V -> V -> Hp -> VK -> Prop} (hu : X.A.units + 1 < cLine) (ho : PE X o td) (hi : PE X i ty) (hv : PE X value tv) (hop : InOp X op rd)
  (ha : ∀ ov iv new, augStore i ov iv new = (do holding [new, ov, iv] (setItem ov iv new); release [new, ov, iv] []; pure .next)) : PS X (.AugAssign (.Subscript o i tpos) op value pos) (zsn td ty tv rd) := by
 intro pins s σ H D I h
 refine wpAny_AugAssign_SubscriptAny (thn (ho pins s σ H _ I h) fun u s1 ⟨x, H1, I1, rx, q1⟩ => thn (hi pins s1 σ H1 _ I1 q1) fun iv s2 ⟨y, H2, I2, ry, a, v, ex, g, q2⟩ => ?_) ha
 subst ex
 obtain rfl : u = Value.ref a := rx
 refine zfj hu I2 g ry fun w' s3 I3 rw' => thn (hv pins s3 σ H2 _ I3 q2) fun w2 s4 ⟨y2, H3, I4, ry2, q3⟩ => thn (hop pins s4 σ H3 v y2 w' w2 _ I4 rw' ry2 q3) fun w3 s5 ⟨z, H4, I5, rz, H5, g5, q4⟩ => ?_
 exact zfi hu I5 g5 ry rz fun s6 I6 => ⟨σ, H5, I6, q4⟩
end
section
variable {X : Cx} {pos : Pos}
end
section
variable {X : Cx} {pins : List (Addr × Obj)} {σ : St} {H : Hp} {s : y04} {a : Addr} {y d : V} {u r : Value} {o : Option V} {A : Around} {E : Value -> y04 -> Prop}
end
section
variable {X : Cx} {o e f : Expr} {apos cpos : Pos} {td ty tx : TE}
end
section
variable {X : Cx} {pins : List (Addr × Obj)} {σ : St} {H : Hp} {s : y04} {a : Addr} {kvs : List (Key × V)} {A : Around} {E : Value -> y04 -> Prop}
end
section
variable {X : Cx} {pins : List (Addr × Obj)} {σ : St} {H : Hp} {s : y04} {a : Addr} {y : V} {u : Value} {A : Around} {E : Value -> y04 -> Prop}
end
end L2
end
section
namespace D
open PySem PySem.Spec PyProof.Rows L2
variable [Tbl]
section
variable {K : y00} {F : Addr -> Prop} {H : Hp}
theorem RepD.get {k : D.Key} {t : T} : ∀ {kvs : List (D.Key × T)} {vs : List (D.Key × V)}, RepD K F H kvs vs -> D.getD kvs k = some t -> ∃ v, valV vs k = some v /\ Rep K F H t v
 | [], vs, h, e => by cases e
 | p :: r, vs, h, e => by
  obtain ⟨v, w, rfl, q, z⟩ := h
  simp only [D.getD, valV, y1x] at e ⊢
  by_cases e' : p.1 = k
  ·simp [e'] at e ⊢
   subst e
   exact q
  ·simp [e'] at e ⊢
   have := RepD.get (k := k) (t := t) z (by simpa [D.getD] using e)
   simpa [valV] using this
theorem RepD.length : ∀ {kvs : List (D.Key × T)} {vs : List (D.Key × V)}, RepD K F H kvs vs -> kvs.length = vs.length
 | [], vs, h => by
  have : vs = [] := h
  subst this
  rfl
 | p :: r, vs, h => by
  obtain ⟨v, w, rfl, q, z⟩ := h
  simp [RepD.length z]
theorem RepD.append : ∀ {kvs us : List (D.Key × T)} {vs ws : List (D.Key × V)}, RepD K F H kvs vs -> RepD K F H us ws -> RepD K F H (kvs ++ us) (vs ++ ws)
 | [], us, vs, ws, h, r => by
  have : vs = [] := h
  subst this
  exact r
 | p :: q, us, vs, ws, h, r => by
  obtain ⟨v, w, rfl, q', z⟩ := h
  exact ⟨v, w ++ ws, rfl, q', RepD.append z r⟩
theorem RepD.mapPut {k : D.Key} {t : T} {v : V} : ∀ {kvs : List (D.Key × T)} {vs : List (D.Key × V)}, RepD K F H kvs vs -> Rep K F H t v -> RepD K F H (kvs.map fun p => if p.1 = k then (k, t) else p) (vs.map fun kv => if kv.1 = k then (kv.1, v) else kv)
 | [], vs, h, q => by
  have : vs = [] := h
  subst this
  rfl
 | p :: r, vs, h, q => by
  obtain ⟨v', w, rfl, q', z⟩ := h
  simp only [y0e]
  by_cases e : p.1 = k
  ·rw [if_pos e, if_pos e]
   exact ⟨v, _, by rw [e], q, RepD.mapPut z q⟩
  ·rw [if_neg e, if_neg e]
   exact ⟨v', _, rfl, q', RepD.mapPut z q⟩
theorem RepD.put {k : D.Key} {t : T} {v : V} {kvs : List (D.Key × T)} {vs : List (D.Key × V)} (h : RepD K F H kvs vs) (q : Rep K F H t v) : RepD K F H (putD kvs k t) (putK vs k v) := by
 have ha : (kvs.any fun p => decide (p.1 = k)) = (vs.any fun kv => decide (kv.1 = k)) := by
  clear q
  induction kvs generalizing vs with
  | nil =>
   have : vs = [] := h
   subst this
   rfl
  | cons p r ih =>
   obtain ⟨v, w, rfl, q', z⟩ := h
   simp only [List.any_cons, ih z]
 unfold putD putK
 rw [ha]
 split
 ·exact RepD.mapPut h q
 ·exact h.append ⟨v, [], rfl, q, rfl⟩
theorem z7v {t : T} {k : D.Key} {v : V} {O : Addr -> Prop} (e : z5a t = some k) (r : RepR K O F H t v) : v = kV k := by
 unfold z5a at e
 split at e
 ·cases e
  exact r.int
 ·cases e
  exact r.str
 ·cases e
end
section
variable {X : Cx} {a b e : Expr} {f g : Fe} {pos : Pos}
variable {x : Str} {px : Pos}
end
end D
end
section
namespace D
open PySem
variable [Tbl]
end D
end
section
namespace D
open PySem PySem.Spec PyProof.Rows L2
variable [Tbl]
theorem zo6 {α β : Type} {R : α -> β -> Prop} : ∀ {l : List α} {ks : List β}, Paired R l ks -> l.length = ks.length
 | _, _, .nil => rfl
 | _, _, .cons a b => by simp [zo6 b]
section
variable {prog : y0r} {w : World} {K : Type} [DecidableEq K] (knd : PySem.KeyKind prog w K)
variable {knd} {A : Around} {E : Value -> y04 -> Prop} {s : y04}
def IsV (knd : PySem.KeyKind prog w K) (v : Value) (k : K) : Prop := knd.is k v = true /\ v.scannable = true
section
variable {R : Result -> y04 -> Prop} {I : Addr} {fp wr : List Addr} {G : Array GenState -> Array GenState -> Prop} {St : Nat -> y04 -> Prop} {items : Array Value}
end
end
end D
end
section
namespace D
open PySem PySem.Spec PyProof.Rows L2
variable [Tbl]
section
variable {prog : y0r} {w : World} {A : Around} {E : Value -> y04 -> Prop} {s : y04}
end
section
variable {prog : y0r} {w : World} {A : Around} {E : Value -> y04 -> Prop} {s : y04}
variable {a I : Addr} {es : Array (Int × Value)} {ep : Nat} {t : SetTable}
end
end D
end
section
namespace D
open PySem PySem.Spec PyProof.Rows L2
variable [Tbl]
section
variable {prog : y0r} {w : World} {A : Around} {E : Value -> y04 -> Prop} {s : y04}
variable {a I : Addr} {es : Array (Int × Value)} {ep : Nat} {t : SetTable}
end
end D
end
section
namespace D
open PySem PySem.Spec PyProof.Rows L2
variable [Tbl]
section
variable {prog : y0r} {w : World} {K : Type} [DecidableEq K] {knd : PySem.KeyKind prog w K} {A : Around} {E : Value -> y04 -> Prop} {s : y04} {a : Addr} {ks : List K}
theorem zh7 {R : List Value -> y04 -> Prop} {T : String} {r d : Addr} {n : Nat} {P : Nat -> Value -> Prop} {OK : Heap -> Prop} (W : PySem.W.KdlSrc prog w T r d n P OK) (hh : A.handled = none) (hok : OK s.heap) (hn : n <= y0k)
  (h : ∀ (h' : Heap) (tk : Nat) (acc : Array Value), (∀ b o, s.heap.get? b = some o -> h'.get? b = some o) -> s.heap.objs.size <= h'.objs.size -> ItemsOf P acc n -> R acc.toList { s with heap := h', toks := tk }) :
  y0v (model prog w) A (collect (.ref r)) R E s := by
 have hlt := W.there _ hok
 unfold collect
 refine y02 (wpAny_runValue (codeAny_builtin entry_proto_collect' ?_))
 rw [y22 PySem.F.plain_proto_collect _]
 show y0v _ A.in1 (newList [] >>= fun l => again (.builtin "list.__iadd__" ⟨[l, .ref r], []⟩)) _ _ s
 refine y02 (wpAny_newObj_type ?_)
 refine y06 ⟨plainId_quiet PySem.F.plain_list_iadd _, codeAny_builtin entry_list_iadd' ?_⟩
 rw [y22 PySem.F.plain_list_iadd _]
 have hS₁ : (s.heap.push { cls := .type "list", data := .seq ([] : List Value).toArray }).get? s.heap.objs.size = some { cls := .type "list", data := .seq #[] } := y0m _ rfl
 show y0v _ A.in1 (Builtin.List.listExtendWith (.ref s.heap.objs.size) (.ref r) (.ref s.heap.objs.size)) _ _ _
 have key := PySem.W.kdl_extend (A := A) (s := { s with heap := s.heap.push { cls := .type "list", data := .seq ([] : List Value).toArray } })
  (R := fun (q : Result) (s' : y04) => ∃ (h' : Heap) (tk : Nat) (acc' : Array Value) (c' : Nat), q = .ok (.ret (.ref s.heap.objs.size)) /\ s' = { s with heap := h', toks := tk } /\
   (∀ b o, s.heap.get? b = some o -> h'.get? b = some o) /\ h'.get? s.heap.objs.size = some { cls := .type "list", dict := none, data := .seq acc' c', slots := #[] } /\ ItemsOf P acc' n)
  W hh (W.keep _ _ hok fun b _ o e => y03 _ e) s.heap.objs.size (y18 hlt.1) (y18 hlt.2) (.ref s.heap.objs.size) 0 hS₁
  (fun h' tk acc' c' hk hS' hacc => ⟨h', tk, acc', c', rfl, rfl, fun b o e => hk b o (y10 (y0c e)) (y03 _ e), hS', hacc⟩) hn
 refine y1g key (fun fin s' x => ?_) fun e s' x => ?_
 ·cases fin with
  | done f =>
   obtain ⟨h', tk, acc', c', e, rfl, hk, hS', hacc⟩ := x
   cases e
   show y0v _ A (load s.heap.objs.size >>= _) _ _ _
   refine y02 (wpAny_load hS' ?_)
   exact y06 (h h' tk acc' hk (Nat.le_of_lt (y0c hS')) hacc)
  | again c₁ =>
   refine ⟨x.1, codeAny_mono x.2 fun q s₂ y => ?_⟩
   obtain ⟨h', tk, acc', c', rfl, rfl, hk, hS', hacc⟩ := y
   show y0v _ A (load s.heap.objs.size >>= _) _ _ _
   refine y02 (wpAny_load hS' ?_)
   exact y06 (h h' tk acc' hk (Nat.le_of_lt (y0c hS')) hacc)
 ·obtain ⟨_, _, _, _, e', _⟩ := x
  cases e'
end
end D
end
section
namespace D
open PySem PySem.Spec PyProof.Rows L2
variable [Tbl]
theorem z63 {α : Type} {r : α -> α -> Prop} (anti : ∀ a b, r a b -> r b a -> a = b) : ∀ {l m : List α}, l.Perm m -> l.Pairwise r -> m.Pairwise r -> l = m
 | [], m, p, _, _ => (List.Perm.nil_eq p)
 | a :: l, m, p, h1, h2 => by
  cases m with
  | nil => exact absurd p.length_eq (by simp)
  | cons b m =>
   have hab : a = b := by
    have ha : a ∈ b :: m := p.mem_iff.mp (by simp)
    have hb : b ∈ a :: l := p.mem_iff.mpr (by simp)
    rcases y09.mp ha with q | q
    ·exact q
    ·rcases y09.mp hb with z | z
     ·exact z.symm
     ·exact anti a b ((y1b.mp h1).1 b z) ((y1b.mp h2).1 a q)
   subst hab
   rw [z63 anti (List.perm_cons a |>.mp p) (y1b.mp h1).2 (y1b.mp h2).2]
theorem zbc (x : Int) : ∀ l : List Int, (insI x l).Perm (x :: l)
 | [] => .rfl
 | y :: ys => by
  unfold insI
  split
  ·exact .rfl
  ·exact ((zbc x ys).cons y).trans (.swap _ _ _)
theorem z70 : ∀ l : List Int, (zea l).Perm l
 | [] => .rfl
 | x :: xs => (zbc x _).trans ((z70 xs).cons x)
theorem zlc (x : Int) : ∀ {l : List Int}, l.Pairwise (· <= ·) -> (insI x l).Pairwise (· <= ·)
 | [], _ => by simp [insI]
 | y :: ys, h => by
  unfold insI
  have h' := y1b.mp h
  split
  next q => exact y1b.mpr ⟨fun z hz => by
   rcases y09.mp hz with rfl | hz
   ·exact q
   ·exact Int.le_trans q (h'.1 z hz), h⟩
  next q => exact y1b.mpr ⟨fun z hz => by
   rcases y09.mp ((zbc x ys).mem_iff.mp hz) with rfl | hz
   ·omega
   ·exact h'.1 z hz, zlc x h'.2⟩
theorem zd8 : ∀ l : List Int, (zea l).Pairwise (· <= ·)
 | [] => .nil
 | x :: xs => zlc x (zd8 xs)
theorem zhm {l m : List Int} (p : l.Perm m) (h : l.Pairwise (· <= ·)) : l = zea m := z63 (fun a b h1 h2 => Int.le_antisymm h1 h2) (p.trans (z70 m).symm) h (zd8 m)
theorem zga {l m : List Int} (p : l.Perm m) : zea l = zea m := zhm ((z70 l).trans p) (zd8 l)
abbrev sLe (x y : Str) : Prop := z4i y x = false
theorem zmc (x y : Str) : z4i x y = ltCps x.cps.toList y.cps.toList := (ltCps_eq _ _).symm
theorem zk4 {x y : Str} (h : z4i x y = true) : sLe x y := by
 unfold sLe z4i at *
 simp only [decide_eq_true_eq, decide_eq_false_iff_not] at *
 exact List.lt_asymm h
theorem zee {x y z : Str} (h1 : sLe x y) (h2 : sLe y z) : sLe x z := by
 unfold sLe z4i at *
 simp only [decide_eq_false_iff_not] at *
 exact List.not_lt.mpr (List.le_trans (List.not_lt.mp h1) (List.not_lt.mp h2))
theorem zmk {x y : Str} (h1 : sLe x y) (h2 : sLe y x) : x = y := by
 unfold sLe z4i at *
 simp only [decide_eq_false_iff_not] at *
 have e : x.cps.toList = y.cps.toList := List.le_antisymm (List.not_lt.mp h1) (List.not_lt.mp h2)
 cases x
 cases y
 simp only [Array.toList_inj] at e
 exact congrArg _ e
theorem zbb (x : Str) : ∀ l : List Str, (insS x l).Perm (x :: l)
 | [] => .rfl
 | y :: ys => by
  unfold insS
  split
  ·exact .rfl
  ·exact ((zbb x ys).cons y).trans (.swap _ _ _)
theorem z3u : ∀ l : List Str, (z75 l).Perm l
 | [] => .rfl
 | x :: xs => (zbb x _).trans ((z3u xs).cons x)
theorem zlb (x : Str) : ∀ {l : List Str}, l.Pairwise sLe -> (insS x l).Pairwise sLe
 | [], _ => by simp [insS]
 | y :: ys, h => by
  unfold insS
  have h' := y1b.mp h
  split
  next q =>
   have q' : sLe x y := by simpa [sLe] using q
   exact y1b.mpr ⟨fun z hz => by
    rcases y09.mp hz with rfl | hz
    ·exact q'
    ·exact zee q' (h'.1 z hz), h⟩
  next q =>
   have q' : z4i y x = true := by simpa using q
   exact y1b.mpr ⟨fun z hz => by
    rcases y09.mp ((zbb x ys).mem_iff.mp hz) with rfl | hz
    ·exact zk4 q'
    ·exact h'.1 z hz, zlb x h'.2⟩
theorem zd7 : ∀ l : List Str, (z75 l).Pairwise sLe
 | [] => .nil
 | x :: xs => zlb x (zd7 xs)
theorem zhl {l m : List Str} (p : l.Perm m) (h : l.Pairwise sLe) : l = z75 m := z63 (fun a b h1 h2 => zmk h1 h2) (p.trans (z3u m).symm) h (zd7 m)
theorem zg9 {l m : List Str} (p : l.Perm m) : z75 l = z75 m := zhl ((z3u l).trans p) (zd7 l)
theorem zce : ∀ (l : List Str) (p : Str), risingS p l = true -> (p :: l).Pairwise sLe
 | [], p, _ => by simp
 | x :: r, p, h => by
  simp only [risingS, y1e, Bool.not_eq_true'] at h
  have ih := zce r x h.2
  have hpx : sLe p x := by
   unfold sLe
   rw [zmc]
   exact h.1
  refine y1b.mpr ⟨fun z hz => ?_, ih⟩
  rcases y09.mp hz with rfl | hz
  ·exact hpx
  ·exact zee hpx ((y1b.mp ih).1 z hz)
theorem zih {l : List Str} (h : sortedS l = true) : l.Pairwise sLe := by
 cases l with
 | nil => exact .nil
 | cons x r => exact zce r x h
section
variable {K : Type} [DecidableEq K]
end
end D
end
section
namespace D
open PySem PySem.Spec PyProof.Rows L2
variable [Tbl]
section
variable {prog : y0r} {w : World} {A : Around} {E : Value -> y04 -> Prop} {s : y04}
inductive Srt : List Value -> List Value -> Prop where
 | ofI {vs out : List Value} {ns : List Int} : IntsAre vs ns -> IntsAre out (zea ns) -> Srt vs out
 | ofS {vs out : List Value} {ss : List Str} : StrsAre vs ss -> StrsAre out (z75 ss) -> Srt vs out
def ze2 (vs : List Value) : Prop := vs.length < 64 /\ ((∃ ns, IntsAre vs ns) \/ ∃ ss, StrsAre vs ss)
theorem z85 {h : Heap} {a : Addr} {vs : List Value} {n : Nat} {out : Array Value} (ho : h.get? a = some (seqObj "list" vs.toArray n)) :
  (∃ e, (sortedHeap h a vs out).get? a = some (seqObj "list" out e)) /\ ∀ b o, b ≠ a -> h.get? b = some o -> (sortedHeap h a vs out).get? b = some o := by
 have hlt := y0c ho
 unfold sortedHeap
 refine ⟨?_, fun b o hb e => ?_⟩
 ·have h1 := get?_update_seq ho (fun _ => (#[] : Array Value))
  have h2 := y03 (seqObj "tuple" vs.toArray 0) h1
  have h3 := y03 (seqObj "list" #[] 0) h2
  exact ⟨_, get?_update_seq h3 (fun _ => out)⟩
 ·rw [Heap.get?_update_other _ _ (Ne.symm hb)]
  exact y03 _ (y03 _ ((Heap.get?_update_other _ _ (Ne.symm hb)).trans e))
theorem zjv {a : Addr} {vs : List Value} {n : Nat} {P : Fin -> y04 -> Prop} (ho : s.heap.get? a = some (seqObj "list" vs.toArray n)) (hs : ze2 vs)
  (h : ∀ out : Array Value, Srt vs out.toList -> P (.done (.ret .none)) { s with heap := sortedHeap s.heap a vs out }) : y0v (model prog w) A (Builtin.«list.sort» ⟨[.ref a], []⟩) P E s := by
 obtain ⟨h64, ⟨ns, hI⟩ | ⟨ss, hS⟩⟩ := hs
 ·refine list_sort_tree ho hI h64 fun out ns' a1 a2 a3 => h out (.ofI hI ?_)
  rw [<- zhm a2 a3]
  exact a1
 ·refine list_sort_treeK strKind_oneLt ho hS.keysOf (fun v₁ v₂ rest e => keyKind_strs (by rw [<- e]; exact hS)) h64 fun st' hp hs => ?_
  obtain ⟨ss', h1, h2, h3⟩ := sorted_out_str hS hp hs
  refine h _ (.ofS hS ?_)
  rw [<- zhl h2 (zih h3)]
  exact h1
theorem zg8 {r : Addr} {C : List Value -> Prop} {Q : Value -> y04 -> Prop}
  (hcol : ∀ (E' : Value -> y04 -> Prop) (R : List Value -> y04 -> Prop), (∀ h' tk d vs, (∀ b o, s.heap.get? b = some o -> h'.get? b = some o) -> s.heap.objs.size <= h'.objs.size -> C vs -> R vs { s with heap := h', toks := tk, drawn := d }) -> y0v (model prog w) A.in1 (collect (.ref r)) R E' s)
  (hC : ∀ vs, C vs -> ze2 vs)
  (h : ∀ h' tk d D e vs out, C vs -> Srt vs out -> (∀ b o, s.heap.get? b = some o -> h'.get? b = some o) -> s.heap.objs.size <= D -> h'.get? D = some (seqObj "list" out.toArray e) -> Q (.ref D) { s with heap := h', toks := tk, drawn := d }) :
  y0v (model prog w) A (call (.builtin "sorted") [.ref r]) Q E s := by
 refine Calls.call_function_entry kind_sorted plain_sorted entry_sorted (args_sorted1 _) ?_
 unfold Builtin.«sorted»
 refine y02 (m := checkCount "sorted" 1 1 _) (y06 ?_)
 refine y02 (hcol _ _ fun h' tk d vs kp hsz c => ?_)
 have hs := hC vs c
 have hz : vs.length <= y0k := by
  have := hs.1
  rw [sizeLine_eq]
  omega
 refine y02 (wpAny_newList ?_ hz)
 have hoL : (h'.push (seqObj "list" vs.toArray 0)).get? h'.objs.size = some (seqObj "list" vs.toArray 0) := y0m _ rfl
 refine y02 (wpAny_holding (wpAny_call_entry slot_list_sort ⟨_, hoL, rfl⟩ entry_list_sort (zjv hoL hs fun out so => ⟨_, rfl, ?_⟩) (args_list_sort _)))
 obtain ⟨⟨e, he⟩, hk⟩ := z85 (out := out) hoL
 refine y06 ⟨_, rfl, ?_⟩
 exact h _ tk d h'.objs.size e vs out.toList c so (fun b o q => hk b o (y10 (y0c (kp b o q))) (y03 _ (kp b o q))) hsz he
end
section
variable {X : Cx} {pins : List (Addr × Obj)} {σ : L2.St} {H : Hp} {s : y04}
theorem z8l {a : Addr} {o : HO} {t' : Nat} {d' : Drawn} {h' : Heap} (I : Inv X pins σ H s) (k : ∀ b u, s.heap.get? b = some u -> h'.get? b = some u) (hp : s.heap.objs.size <= a) (new : z5b X.prog X.w (upd H a o) h' a o) :
  Inv X pins σ (upd H a o) { s with heap := h', toks := t', drawn := d' } :=
 I.call (ch := []) (g' := s.gens) (Un.laid k hp (I.hok.fresh hp)) (I.hok.laid k hp new) I.bare fun _ z => nomatch z
theorem zb8 : ∀ {us : List Value} {ns : List Int}, IntsAre us ns -> Vals (ns.map V.int) us
 | _, _, .nil => .nil
 | _, _, .cons n t r => .cons ⟨t, rfl⟩ (zb8 r)
theorem zai : ∀ {us : List Value} {ss : List Str}, StrsAre us ss -> Vals (ss.map V.str) us
 | _, _, .nil => .nil
 | _, _, .cons n t r => .cons ⟨t, rfl⟩ (zai r)
theorem zah : ∀ {us : List Value} {ks : List L2.Key}, Vals (ks.map kV) us -> Paired (IsV (z1m X.prog X.w)) us ks
 | [], [], _ => .nil
 | _, .inl i :: ks, .cons r rs => by
  obtain ⟨t, rfl⟩ := r
  exact .cons ⟨zaz _ _ i t, rfl⟩ (zah rs)
 | _, .inr x :: ks, .cons r rs => by
  obtain ⟨t, rfl⟩ := r
  exact .cons ⟨zay _ _ x t, rfl⟩ (zah rs)
theorem zb7 : ∀ {us : List Value} {ks : List L2.Key} {ns : List Int}, Paired (IsV (z1m X.prog X.w)) us ks -> ks = ns.map Sum.inl -> IntsAre us ns
 | _, _, [], .nil, _ => .nil
 | _, _, n :: ns, .cons a b, e => by
  cases e
  have a1 := a.1
  rw [zcm] at a1
  rcases z1u a1 with ⟨i, t, e1, rfl⟩ | ⟨x, t, e1, rfl⟩
  ·cases e1
   exact .cons _ t (zb7 b rfl)
  ·cases e1
theorem zb5 : ∀ {us : List Value} {ks : List L2.Key} {ss : List Str}, Paired (IsV (z1m X.prog X.w)) us ks -> ks = ss.map Sum.inr -> StrsAre us ss
 | _, _, [], .nil, _ => .nil
 | _, _, n :: ns, .cons a b, e => by
  cases e
  have a1 := a.1
  rw [zcm] at a1
  rcases z1u a1 with ⟨i, t, e1, rfl⟩ | ⟨x, t, e1, rfl⟩
  ·cases e1
  ·cases e1
   exact .cons _ t (zb5 b rfl)
theorem z5e {α β : Type} (f : α -> β) : ∀ {l : List α} {m : List β}, m.Perm (l.map f) -> ∃ l' : List α, m = l'.map f /\ l'.Perm l := by
 intro l m p
 generalize hx : l.map f = lf at p
 induction p generalizing l with
 | nil =>
  rw [List.map_eq_nil_iff] at hx
  subst hx
  exact ⟨[], rfl, .rfl⟩
 | cons x _ ih =>
  cases l with
  | nil => cases hx
  | cons a r =>
   simp only [y0e, List.cons.injEq] at hx
   obtain ⟨l', e, q⟩ := ih hx.2
   exact ⟨a :: l', by rw [y0e, hx.1, e], q.cons a⟩
 | swap x y r =>
  match l, hx with
  | a :: b :: r', hx =>
   simp only [y0e, List.cons.injEq] at hx
   exact ⟨b :: a :: r', by rw [y0e, y0e, hx.1, hx.2.1, hx.2.2], .swap _ _ _⟩
 | trans _ _ i1 i2 =>
  obtain ⟨l1, e1, q1⟩ := i2 hx
  obtain ⟨l2, e2, q2⟩ := i1 e1.symm
  exact ⟨l2, e2, q2.trans q1⟩
def zmg (ks : List L2.Key) (ys : List V) : Prop := (∃ ns : List Int, ks = ns.map Sum.inl /\ ys = (zea ns).map V.int) \/ ∃ ss : List Str, ks = ss.map Sum.inr /\ ys = (z75 ss).map V.str
theorem zmf {vs out : List Value} {ks ks' : List L2.Key} {ys : List V} (hv : Paired (IsV (z1m X.prog X.w)) vs ks') (hp : ks'.Perm ks) (so : Srt vs out) (hk : zmg ks ys) : Vals ys out := by
 rcases hk with ⟨ns, rfl, rfl⟩ | ⟨ss, rfl, rfl⟩
 ·obtain ⟨ns', rfl, hp'⟩ := z5e Sum.inl hp
  have hI := zb7 hv rfl
  cases so with
  | ofI a b =>
   rename_i ms
   rw [<- zga hp', show ns' = ms from ?_]
   ·exact zb8 b
   ·rw [<- IntsAre.numsOf hI, <- IntsAre.numsOf a]
  | ofS a b =>
   cases a with
   | nil =>
    cases hI
    have : ns = [] := List.Perm.eq_nil hp'.symm
    subst this
    exact zai b
   | cons x t _ => cases hI
 ·obtain ⟨ss', rfl, hp'⟩ := z5e Sum.inr hp
  have hS := zb5 hv rfl
  cases so with
  | ofS a b =>
   rename_i ms
   rw [<- zg9 hp', show ss' = ms from ?_]
   ·exact zai b
   ·rw [<- StrsAre.strs hS, <- StrsAre.strs a]
  | ofI a b =>
   cases a with
   | nil =>
    cases hS
    have : ss = [] := List.Perm.eq_nil hp'.symm
    subst this
    exact zb8 b
   | cons x t _ => cases hS
theorem zdq {vs : List Value} {ks ks' : List L2.Key} {ys : List V} (hz : ks.length < 64) (hv : Paired (IsV (z1m X.prog X.w)) vs ks') (hp : ks'.Perm ks) (hk : zmg ks ys) : ze2 vs := by
 refine ⟨by rw [zo6 hv, hp.length_eq]; exact hz, ?_⟩
 rcases hk with ⟨ns, rfl, _⟩ | ⟨ss, rfl, _⟩
 ·obtain ⟨ns', rfl, _⟩ := z5e Sum.inl hp
  exact .inl ⟨_, zb7 hv rfl⟩
 ·obtain ⟨ss', rfl, _⟩ := z5e Sum.inr hp
  exact .inr ⟨_, zb5 hv rfl⟩
theorem zjx {ks : List L2.Key} {ys : List V} (h : zmg ks ys) : ys.length = ks.length := by
 rcases h with ⟨ns, rfl, rfl⟩ | ⟨ss, rfl, rfl⟩
 ·simp [(z70 ns).length_eq]
 ·simp [(z3u ss).length_eq]
theorem zl2 : ∀ {kvs : List (L2.Key × V)} {vs : List (L2.Key × Value)}, KV kvs vs -> kvs.map (·.1) = vs.map (·.1)
 | _, _, .nil => rfl
 | _, _, .cons a b => by simp [a.1, zl2 b]
theorem zfp (hc : X.calm = true) : z90 X (.builtin "sorted") (fun xs H Q => ∃ p ks ys, xs = [.ref p] /\ SqL X.K H p (ks.map kV) /\ ks.length < 64 /\ zmg ks ys /\ ∀ l, H l = none -> Q (.ref l) (upd H l (.lst ys))) := by
 intro pins s σ H xs us Q I r h
 obtain ⟨p, ks, ys, rfl, hq, hz, hk, q⟩ := h
 obtain ⟨u, rfl, rx⟩ := zg7 r
 cases rx
 obtain ⟨its, r', pl, hz'⟩ := I.list hq
 have hlen := r'.length
 rw [y16] at hlen
 have hit : Paired (IsV (z1m X.prog X.w)) its ks := zah (by simpa using r')
 refine zg8 (C := fun us => us = its) (fun E' R hR => collect_list pl.isList (hR _ s.toks s.drawn its (fun b o e => ?_) ?_ rfl) (by rw [sizeLine_eq]; omega)) (fun us hu => by subst hu; exact zdq hz hit .rfl hk) fun h' tk d D e us out hu so kp hD he => ?_
 ·exact (Heap.get?_update_other _ _ (y18 (y0c e))).trans (y03 _ e)
 ·rw [Heap.size_update, y1a]
  exact Nat.le_succ _
 ·subst hu
  exact ⟨.ref D, _, z8l I (o := .lst ys) kp hD ⟨by rw [zjx hk, sizeLine_eq]; omega, out, e, zmf hit .rfl so hk, he⟩, rfl, q _ (I.hok.fresh hD)⟩
end
end D
end
section
namespace D
open PySem PySem.Spec PyProof.Rows L2
variable [Tbl]
theorem zf9 : ∀ {ts : List T} {ns : List Int}, zba ts = some ns -> ts = ns.map .int
 | [], ns, e => by
  cases e
  rfl
 | t :: ts, ns, e => by
  unfold zba at e
  split at e
  ·rename_i h
   cases h
  ·rename_i h
   cases h
   simp only [y07] at e
   obtain ⟨r, e1, rfl⟩ := e
   rw [zf9 e1]
   rfl
  ·cases e
theorem zaj : ∀ {ts : List T} {ss : List Str}, zak ts = some ss -> ts = ss.map .str
 | [], ns, e => by
  cases e
  rfl
 | t :: ts, ns, e => by
  unfold zak at e
  split at e
  ·rename_i h
   cases h
  ·rename_i h
   cases h
   simp only [y07] at e
   obtain ⟨r, e1, rfl⟩ := e
   rw [zaj e1]
   rfl
  ·cases e
section
variable {K : y00} {F : Addr -> Prop} {H : Hp}
theorem zef : ∀ (ns : List Int), RepL K F H (ns.map .int) (ns.map V.int)
 | [] => RepL.nil
 | n :: ns => RepL.cons (by simp [Rep]) (zef ns)
theorem zam : ∀ (ns : List Str), RepL K F H (ns.map .str) (ns.map V.str)
 | [] => RepL.nil
 | n :: ns => RepL.cons (by simp [Rep]) (zam ns)
theorem zcg : ∀ {ns : List Int} {vs : List V}, RepL K F H (ns.map .int) vs -> vs = ns.map V.int
 | [], vs, h => by simpa [RepL] using h
 | n :: ns, vs, h => by
  simp only [y0e, RepL, Rep] at h
  obtain ⟨v, r, rfl, rfl, z⟩ := h
  rw [zcg z]
  rfl
theorem z97 : ∀ {ns : List Str} {vs : List V}, RepL K F H (ns.map .str) vs -> vs = ns.map V.str
 | [], vs, h => by simpa [RepL] using h
 | n :: ns, vs, h => by
  simp only [y0e, RepL, Rep] at h
  obtain ⟨v, r, rfl, rfl, z⟩ := h
  rw [z97 z]
  rfl
end
section
variable {X : Cx} {a e : Expr} {es : List Expr} {f : Fe} {fs : List Fe} {p p2 pos pos2 : Pos}
end
section
variable {prog : y0r} {w : World} {A : Around} {E : Value -> y04 -> Prop} {s : y04}
end
section
variable {X : Cx} {e st : Expr} {te : TE} {f : Fe} {pos p2 : Pos}
end
end D
end
section
namespace D
open PySem PySem.Spec PyProof.Rows L2
variable [Tbl]
section
variable {prog : y0r} {w : World} {K : Type} [DecidableEq K] {knd : PySem.KeyKind prog w K} {A : Around} {E : Value -> y04 -> Prop} {s : y04}
end
end D
end
section
namespace D
open PySem PySem.Spec PyProof.Rows L2
variable [Tbl]
section
variable {X : Cx} {a b e : Expr} {es rest : List Expr} {f g : Fe} {fs : List Fe} {p p2 pos pos2 : Pos}
theorem zkh {op : BoolOp} (h : PEv X a f) : PEv X (.BoolOp op [a] pos) f := zo5 h
theorem zsr {op : BoolOp} (h : PEv X a f) : PEv X (.BoolOp op [a] pos) f := zo5 h
theorem zp1 (ha : PEv X a f) (hb : PEv X (.BoolOp .And (b :: rest) pos) g) : PEv X (.BoolOp .And (a :: b :: rest) pos) (andV f g) := z10 (zrj ha hb) fun σ H Q ⟨F₀, H₀, O, F, ε, t, r, e, k⟩ => by
 simp only [andV, y01] at e
 obtain ⟨x, ex, e⟩ := e
 refine ⟨F₀, H₀, O, F, ε, x, r, ex, fun v F1 H1 x1 rx => ?_⟩
 split at e
 ·simp only [Rep] at rx
  refine ⟨true, rx, ?_⟩
  rw [if_pos rfl]
  exact ⟨F₀, H₀, O, F1, ε, t, r.ext x1, e, fun v F' H' x2 q => k v F' H' (x1.trans x2) q⟩
 ·cases e
  simp only [Rep] at rx
  refine ⟨false, rx, ?_⟩
  rw [if_neg (by decide)]
  exact k _ F1 H1 x1 (by simp [Rep])
 ·cases e
theorem q_or (ha : PEv X a f) (hb : PEv X (.BoolOp .Or (b :: rest) pos) g) : PEv X (.BoolOp .Or (a :: b :: rest) pos) (orV f g) := z10 (zt0 ha hb) fun σ H Q ⟨F₀, H₀, O, F, ε, t, r, e, k⟩ => by
 simp only [orV, y01] at e
 obtain ⟨x, ex, e⟩ := e
 refine ⟨F₀, H₀, O, F, ε, x, r, ex, fun v F1 H1 x1 rx => ?_⟩
 split at e
 ·simp only [Rep] at rx
  refine ⟨false, rx, ?_⟩
  rw [if_neg (by decide)]
  exact ⟨F₀, H₀, O, F1, ε, t, r.ext x1, e, fun v F' H' x2 q => k v F' H' (x1.trans x2) q⟩
 ·cases e
  simp only [Rep] at rx
  refine ⟨true, rx, ?_⟩
  rw [if_pos rfl]
  exact k _ F1 H1 x1 (by simp [Rep])
 ·cases e
theorem zr0 (hm : X.mg "list" = none) (ha : PAr X (e :: es) fs) (hg : Gl X "list" := by rfl) (he : y0a (e :: es) X.env = (false, eval e X.env) :: y0a es X.env := by rfl) (hpl : (backTo pos (y0a es X.env)).any (·.1) = false := by rfl) :
  PEv X (.Call (.Name "list" p) (e :: es) [] pos) (opN ziq fs) := z10 (z8f z9u hg hm (by decide +kernel) ha (he := he) (hpl := hpl)) (zar (by
 intro O F H ts t vs Q d q e k
 unfold ziq at e
 split at e
 ·cases e
  cases q with
  | cons q1 q2 =>
   cases q2
   obtain ⟨l0, ws, rfl, hl, hr⟩ := q1.tup
   refine ⟨l0, ws, rfl, .inr hl, fun l hl1 => ?_⟩
   have x1 := Ext.laidF (o := .lst ws) d hl1
   refine k _ _ _ x1 ?_
   simp only [Rep]
   exact ⟨l, ws, rfl, .inr rfl, .inl z0d, hr.ext x1⟩
 ·cases e
  cases q with
  | cons q1 q2 =>
   cases q2
   obtain ⟨l0, ws, rfl, hl, hr⟩ := q1.lst
   refine ⟨l0, ws, rfl, .inl (.inl hl), fun l hl1 => ?_⟩
   have x1 := Ext.laidF (o := .lst ws) d hl1
   refine k _ _ _ x1 ?_
   simp only [Rep]
   exact ⟨l, ws, rfl, .inr rfl, .inl z0d, hr.ext x1⟩
 ·cases e))
def tOt (K : y00) (f : Ev -> Option (Option Int)) : TO := fun σ H Q => ∃ F₀ H₀ O F ε i, RelE K F₀ H₀ O F H ε σ /\ f ε = some i /\ ∀ F' H', Ext F H F' H' -> Q i H'
theorem zom {x : Option Expr} {t t' : TO} (h : PO X x t) (k : ∀ σ H Q, t' σ H Q -> t σ H Q) : PO X x t' := fun pins s σ H Q I q => h pins s σ H Q I (k σ H Q q)
theorem zoa : PO X none (tOt X.K optN) := zom zpa fun σ H Q ⟨F₀, H₀, O, F, ε, i, r, e, k⟩ => by
 cases e
 exact k F H (Ext.refl r.dom)
theorem zo9 (h : PEr X a f) : PO X (some a) (tOt X.K (opt f)) := zom (zp9 h) fun σ H Q ⟨F₀, H₀, O, F, ε, i, r, e, k⟩ => by
 simp only [opt, y01] at e
 obtain ⟨x, ex, e⟩ := e
 refine ⟨F₀, H₀, O, F, ε, x, r, ex, fun v F1 H1 x1 rx => ?_⟩
 split at e
 ·cases e
  exact ⟨_, rx.int, k F1 H1 x1⟩
 ·cases e
def rSlW (K : y00) : V -> Option Int -> Option Int -> Hp -> VK -> Prop := fun x lo hi H Q => ∃ a xs, x = .ref a /\ SqT K H a xs /\ (HT.sIx xs.length 0 lo = 0 /\ HT.sIx xs.length xs.length hi = xs.length) /\ Q (.ref a) H
theorem z7w {prog : y0r} {w : World} {A : Around} {E : Value -> y04 -> Prop} {s : y04} {t sl : Addr} {items : Array Value} {vl vu : Value} {lo hi : Option Int} {Q : Value -> y04 -> Prop} (ht : IsTup s.heap t items) (hs : s.heap.IsSliceOf sl vl vu .none) (pl : IsPart vl lo) (pu : IsPart vu hi)
  (hw : HT.sIx items.size 0 lo = 0 /\ HT.sIx items.size items.size hi = items.size) (h : Q (.ref t) s) : y0v (model prog w) A (getItem (.ref t) (.ref sl)) Q E s := by
 obtain ⟨os, hos, hcs, hds⟩ := id hs
 have hTs : s.TypeIs (.ref sl) "slice" := ⟨os, hos, hcs⟩
 unfold getItem
 try with_reducible refine wpAny_holding ?_
 first | refine y02 (y06 ?_) | skip
 refine y02 (wpAny_sequenceKey ht.typeIs (by decide) ?_)
 refine y02 (wpAny_callSpecial?_slot (name := Str.ofString "__getitem__") ht.typeIs y1k
  (wpAny_call_entry y1k ht.typeIs entry_tuple_getitem ?_ (args_tuple_getitem _ _)))
 show y0v _ _ (Builtin.Tuple.tupleItemsOf (.ref t) >>= _) _ _ s
 refine y02 (tupleItemsOf_ ht ?_)
 refine y02 (wpAny_typeOf hTs ?_)
 rw [if_pos (by decide)]
 refine y02 (HT.sliceApplied_gen hs pl pu ?_)
 rw [hw.1, hw.2]
 show y0v _ _ (if (((0 : Nat) : Int) == 0 && (1 : Int) == 1 && (items.size - 0) == items.size) = true then _ else _) _ _ s
 rw [if_pos (by simp)]
 unfold Builtin.Tuple.tupleIsExact
 refine y02 (y02 (wpAny_typeOf ht.typeIs (y06 ?_)))
 rw [if_pos (by decide)]
 refine y02 (wpAny_rule ?_)
 exact y06 ⟨_, rfl, y06 h⟩
theorem zmh : SlR X (rSlW X.K) := by
 intro pins s σ H x v vl vu lo hi sl Q I rx hs pl pu h
 obtain ⟨a, xs, rfl, hx, hw, q⟩ := h
 cases rx
 obtain ⟨its, r, ht, hz⟩ := I.tuple hx
 have hlen : its.toArray.size = xs.length := by rw [y0i]; exact r.length.symm
 refine ⟨"tuple", _, PyProof.Rows.slot_tuple_getitem.lookup, ht.typeIs, ?_⟩
 exact z7w ht hs pl pu (by rw [hlen]; exact hw) ⟨.ref a, H, I, rfl, q⟩
theorem zqt (n d : Nat) (o : Option Int) : D.sIx n d o = HT.sIx n d o := by
 cases o with
 | none => rfl
 | some v =>
  unfold D.sIx HT.sIx
  dsimp only
  split <;> omega
theorem zdg {K : y00} {F : Addr -> Prop} {H : Hp} {ts : List T} {vs : List V} (h : RepL K F H ts vs) (lo hi : Option Int) : RepL K F H (cutZ ts lo hi) (cutV vs lo hi) := by
 unfold cutZ cutV
 simp only [zqt, h.length]
 exact (h.drop _).take _
theorem zkc {lo hi : Option Expr} {fl fh : Ev -> Option (Option Int)} (ha : PEr X e f) (hl : PO X lo (tOt X.K fl)) (hu : PO X hi (tOt X.K fh)) : PEv X (.Subscript e (.Slice lo hi none p2) pos) (slice f fl fh) := z10 (zmv ((zqo.or zmh).or zot) ha hl hu) fun σ H Q ⟨F₀, H₀, O, F, ε, t, r, e, k⟩ => by
 simp only [slice, y01] at e
 obtain ⟨x, ex, l, el, h, eh, e⟩ := e
 refine ⟨F₀, H₀, O, F, ε, x, r, ex, fun v F1 H1 x1 rx => ⟨F₀, H₀, O, F1, ε, l, r.ext x1, el, fun F2 H2 x2 => ⟨F₀, H₀, O, F2, ε, h, (r.ext x1).ext x2, eh, fun F3 H3 x3 => ?_⟩⟩⟩
 have x23 := x2.trans x3
 have x13 := x1.trans x23
 unfold oSl at e
 split at e
 ·cases e
  obtain ⟨a, vs, rfl, hs, hr⟩ := (rx.ext x23).tup
  by_cases hw : HT.sIx vs.length 0 l = 0 /\ HT.sIx vs.length vs.length h = vs.length
  ·refine .inl (.inr ⟨a, vs, rfl, hs, hw, k _ F3 H3 x13 ?_⟩)
   simp only [Rep]
   refine ⟨a, vs, rfl, hs, ?_⟩
   have := zdg hr l h
   unfold cutV at this
   rw [hw.1, hw.2, List.drop_zero, Nat.sub_zero, List.take_length] at this
   exact this
  ·refine .inl (.inl ⟨a, vs, rfl, hs, hw, fun q hq => ?_⟩)
   have x4 := Ext.laid (o := .tup (cutV vs l h)) x13.dom hq
   refine k _ F3 _ (x13.trans x4) ?_
   simp only [Rep]
   exact ⟨q, _, rfl, SqT.of z0d, (zdg hr l h).ext x4⟩
 ·cases e
  obtain ⟨a, vs, rfl, hs, hr⟩ := (rx.ext x23).lst
  refine .inr ⟨a, vs, rfl, .inl hs, fun q hq => ?_⟩
  have x4 := Ext.laidF (o := .lst (cutV vs l h)) x13.dom hq
  refine k _ _ _ (x13.trans x4) ?_
  simp only [Rep]
  exact ⟨q, _, rfl, .inr rfl, .inl z0d, (zdg hr l h).ext x4⟩
 ·cases e
end
section
variable {X : Cx} {a e : Expr} {f : Fe} {p p2 pos pos2 : Pos}
end
end D
end
section
namespace D
open PySem PySem.W PyProof.Rows
structure OrdK (n : Nat) (lt : Nat -> Nat -> Bool) : Prop where
 asym : ∀ i j, lt i j = true -> lt j i = false
 trans : ∀ i j k, lt i j = true -> lt j k = true -> lt i k = true
 tot : ∀ i j, i < n -> j < n -> i ≠ j -> lt i j = true \/ lt j i = true
def SP (lt : Nat -> Nat -> Bool) (p : Array Nat) (m : Nat) : Prop := ∀ i j, i < j -> j < m -> lt (p.getD i 0) (p.getD j 0) = true
def DP (lt : Nat -> Nat -> Bool) (p : Array Nat) (m : Nat) : Prop := ∀ i j, i < j -> j < m -> lt (p.getD j 0) (p.getD i 0) = true
section
variable {n : Nat} {lt : Nat -> Nat -> Bool} (O : OrdK n lt)
include O
end
end D
end
section
namespace D
open PySem
variable [Tbl]
end D
end
section
namespace D
open PySem PySem.Spec PyProof.Rows L2
variable [Tbl]
open PySem.W (kas_ask kas_sort kat_run kat_snds kat_lt kat_kind KatTups KatLex KatGo kas_item KasT)
section
variable {prog : y0r} {w : World} {A : Around} {E : Value -> y04 -> Prop} {s : y04}
end
section
variable {X : Cx}
variable {e : Expr} {es : List Expr} {fs : List Fe} {p pos : Pos}
end
end D
end
section
namespace D
open PySem PySem.Spec PyProof.Rows L2
variable [Tbl]
theorem zfe : entryFor table "dict.update.loop" = some Builtin.«dict.update.loop» := entryFor_of_tree (by kernel_rfl)
theorem z8d : plainId "dict.update.loop" = true := by decide +kernel
section
variable {prog : y0r} {w : World} {K : Type} [DecidableEq K] {knd : PySem.KeyKind prog w K} {A : Around}
theorem zin {E : Value -> y04 -> Prop} {s : y04} {p : Addr} {o : Obj} {n : Nat} {xs : Array Value} {Q : List Value -> y04 -> Prop} (h1 : s.heap.get? p = some o) (h2 : o.cls = .type "tuple") (h3 : o.data = .seq xs n) (h : Q xs.toList s) : y0v (model prog w) A (Builtin.Dict.pairItems (.ref p)) Q E s := by
 obtain ⟨c, dct, dat, sl⟩ := o
 simp only at h2 h3
 subst h2 h3
 obtain ⟨hp, g, d, tk, os⟩ := s
 have hT : (⟨hp, g, d, tk, os⟩ : y04).TypeIs (.ref p) "tuple" := ⟨_, h1, rfl⟩
 unfold Builtin.Dict.pairItems
 repeat (any_goals (first | assumption | wp_step))
theorem zig {kvs : List (K × Value)} {k : K} {v : Value} (h : k ∉ kvs.map (·.1)) : stored kvs k v = kvs ++ [(k, v)] := by
 unfold stored
 rw [if_neg]
 intro q
 obtain ⟨x, hx, e⟩ := List.any_eq_true.mp q
 exact h (y0n.mpr ⟨x, hx, by simpa using e⟩)
variable {R : Result -> y04 -> Prop} {I : Addr} {fp wr : List Addr} {G : Array GenState -> Array GenState -> Prop} {St : Nat -> y04 -> Prop} {items : Array Value}
variable {E : Value -> y04 -> Prop} {s : y04}
end
end D
end
section
namespace D
open PySem PySem.Spec PyProof.Rows L2
variable [Tbl]
section
variable {X : Cx}
variable {a b e : Expr} {f g : Fe} {x y : Str} {p px py pos pos2 : Pos}
end
end D
end
section
namespace D
open PySem PySem.Spec PyProof.Rows L2
variable [Tbl]
open AutoSeq1 (wpAny_loadPart')
section
variable {X : Cx} {es : List Expr} {k : Nat} {p pos p2 : Pos} {a : Expr} {f : Fe}
end
end D
end
section
namespace D
open PySem PySem.Spec PyProof.Rows L2
variable [Tbl]
open AutoSeq1 (wpAny_loadPart')
section
variable {prog : y0r} {w : World} {A : Around} {E : Value -> y04 -> Prop} {s : y04}
end
end D
end
section
namespace D
open PySem PySem.Spec PyProof.Rows L2
variable [Tbl]
section
variable {K : y00} {F : Addr -> Prop} {H : Hp}
end
section
variable {X : Cx} {a e : Expr} {es : List Expr} {f : Fe} {fs : List Fe} {p p2 pos pos2 : Pos}
end
end D
end
section
namespace D
open PySem PySem.Spec PyProof.Rows L2
variable [Tbl]
mutual
def ltD : T -> T -> Option Bool
 | .int a, .int b => some (decide (a < b))
 | .tuple xs, .tuple ys => lexD xs ys
 | _, _ => none
def lexD : List T -> List T -> Option Bool
 | [], [] => some false
 | [], _ :: _ => some true
 | _ :: _, [] => some false
 | x :: xs, y :: ys => if y28 x y then lexD xs ys else ltD x y
end
def LtAt (A : Around) (s : y04) (y x : Value) (b : Bool) : Prop :=
 ∀ (prog : y0r) (w : World) (E : Value -> y04 -> Prop) (Q : Value -> y04 -> Prop), Q (.bool b) s -> y0v (model prog w) A (richCompare .Lt y x) Q E s
inductive GoodP (A : Around) (s : y04) (fin : Bool) : List (Value × Value) -> Bool -> Prop
 | nil : GoodP A s fin [] fin
 | eq {y x : Value} {r : List (Value × Value)} {b : Bool} : SeqAt.EqAt A s y x true -> GoodP A s fin r b -> GoodP A s fin ((y, x) :: r) b
 | lt {y x : Value} {r : List (Value × Value)} {b : Bool} : SeqAt.EqAt A s y x false -> LtAt A s y x b -> GoodP A s fin ((y, x) :: r) b
section
open PySem.SeqAt
open PySem.AutoSeq1 (wpAny_loadPart')
open PySem.MeetsSeq PySem.MeetsSeq2 PySem.MeetsSeq3
theorem ze6 (l b : Addr) (items items2 : Array Value) (n n2 : Nat) (dd dd2 : Option Addr) (sl sl2 : Array (Option Value)) (z : Bool) :
  Meets (Builtin.«tuple.__lt__» ⟨[.ref l, .ref b], []⟩)
   (fun A R s => s.heap.get? l = some { cls := .type "tuple", dict := dd, data := .seq items n, slots := sl } /\ s.heap.get? b = some { cls := .type "tuple", dict := dd2, data := .seq items2 n2, slots := sl2 } /\
    GoodP A.in1 s (decide (items.size < items2.size)) (items.toList.zip items2.toList) z /\ R (.ok (.ret (.bool z))) s) :=
 .of_wp fun prog w A R s h => by
  obtain ⟨hp, g, d, tk, os⟩ := s; obtain ⟨hl, hb, hg, h⟩ := h
  have f2 := AutoSeq1.sub_tuple_tuple
  wp_walk using wpAny_loadPart' hl, wpAny_loadPart' hb, wpAny_forIn_list _ (fun rest b s' => b.1 = none /\ s' = ⟨hp, g, d, tk, os⟩ /\ GoodP A.in1 ⟨hp, g, d, tk, os⟩ (decide (items.size < items2.size)) rest z) _
  case turn =>
   rintro ⟨y, x⟩ rest b s' ⟨hb', rfl, hG⟩
   cases hG with
   | eq he hG =>
    refine y02 (he prog w _ _ ?_)
    wp_walk
    exact ⟨rfl, rfl, hG⟩
   | lt he hlt =>
    refine y02 (he prog w _ _ ?_)
    have hri := hlt prog w
    wp_walk using hri
    exact ⟨_, rfl, h⟩
  case fin =>
   rintro ⟨b1, b2⟩ s' ⟨hb', rfl, hG⟩
   simp only at hb'
   subst hb'
   cases hG
   wp_walk
   exact ⟨_, rfl, by simpa [Builtin.Tuple.tupleCompareSizes] using h⟩
  case h =>
   exact ⟨rfl, rfl, hg⟩
mutual
theorem zn6 : ∀ (da db : T) (A : Around) (s : y04) (a b : Value) (as bs : List Addr) (r : Bool), Reads s.heap a da as -> Reads s.heap b db bs -> da.canLay0 = true -> db.canLay0 = true -> A.units + min da.depth db.depth < cLine -> ltD da db = some r -> LtAt A s a b r
 | .int i, .int j, A, s, _, _, _, _, r, .int _ t, .int _ u, _, _, _, e => by
  unfold ltD at e
  cases e
  exact fun prog w E Q q => (PyProof.Rows.lt_int q : y0v (model prog w) A (compareOp .Lt (.int i t) (.int j u)) Q E s)
 | .tuple xs, .tuple ys, A, s, _, _, _, _, r, .tuple (a := l) (o := o) (vs := vs) (n := n) h1 h2 h3 h4, .tuple (a := l') (o := o') (vs := vs') (n := n') k1 k2 k3 k4, ha, hb, hu, e => by
  unfold ltD at e
  simp only [PyData.canLay0] at ha hb
  simp only [y2d] at hu
  have hG := zcw xs ys A.in1 s vs.toList vs'.toList _ _ r h4 k4 ha hb (room_in hu) e
  obtain ⟨cls, dd, data, sl⟩ := o
  obtain ⟨cls2, dd2, data2, sl2⟩ := o'
  simp only at h2 h3 k2 k3
  subst h2 h3 k2 k3
  rw [y27, y27] at hG
  exact fun prog w E Q q => richCompare_meets_room (op := .Lt) ⟨_, h1, rfl⟩ ⟨_, k1, rfl⟩ PySem.F.slot_tuple_lt PySem.F.entry_tuple_lt (PySem.F.args_tuple_lt_2 _ _) (ze6 l l' vs vs' n n' dd dd2 sl sl2 r)
   ⟨h1, k1, hG, show Value.bool r ≠ Value.notImplemented /\ Q (.bool r) s from ⟨(fun x => nomatch x), q⟩⟩ (by omega)
 | .none, _, _, _, _, _, _, _, _, _, _, _, _, _, e => by simp [ltD] at e
 | .bool _, _, _, _, _, _, _, _, _, _, _, _, _, _, e => by simp [ltD] at e
 | .str _, _, _, _, _, _, _, _, _, _, _, _, _, _, e => by simp [ltD] at e
 | .list _, _, _, _, _, _, _, _, _, _, _, _, _, _, e => by simp [ltD] at e
 | .dict _, _, _, _, _, _, _, _, _, _, _, _, _, _, e => by simp [ltD] at e
 | .int _, .none, _, _, _, _, _, _, _, _, _, _, _, _, e => by simp [ltD] at e
 | .int _, .bool _, _, _, _, _, _, _, _, _, _, _, _, _, e => by simp [ltD] at e
 | .int _, .str _, _, _, _, _, _, _, _, _, _, _, _, _, e => by simp [ltD] at e
 | .int _, .list _, _, _, _, _, _, _, _, _, _, _, _, _, e => by simp [ltD] at e
 | .int _, .dict _, _, _, _, _, _, _, _, _, _, _, _, _, e => by simp [ltD] at e
 | .int _, .tuple _, _, _, _, _, _, _, _, _, _, _, _, _, e => by simp [ltD] at e
 | .tuple _, .none, _, _, _, _, _, _, _, _, _, _, _, _, e => by simp [ltD] at e
 | .tuple _, .bool _, _, _, _, _, _, _, _, _, _, _, _, _, e => by simp [ltD] at e
 | .tuple _, .str _, _, _, _, _, _, _, _, _, _, _, _, _, e => by simp [ltD] at e
 | .tuple _, .list _, _, _, _, _, _, _, _, _, _, _, _, _, e => by simp [ltD] at e
 | .tuple _, .dict _, _, _, _, _, _, _, _, _, _, _, _, _, e => by simp [ltD] at e
 | .tuple _, .int _, _, _, _, _, _, _, _, _, _, _, _, _, e => by simp [ltD] at e
theorem zcw : ∀ (xs ys : List T) (A : Around) (s : y04) (vs ws : List Value) (as bs : List Addr) (r : Bool), ReadsAll s.heap vs xs as -> ReadsAll s.heap ws ys bs -> y1j xs = true -> y1j ys = true -> A.units + min (y1h xs) (y1h ys) < cLine -> lexD xs ys = some r -> GoodP A s (decide (vs.length < ws.length)) (vs.zip ws) r
 | [], [], A, s, _, _, _, _, r, .nil, .nil, _, _, _, e => by
  unfold lexD at e
  cases e
  exact .nil
 | [], _ :: _, A, s, _, _, _, _, r, .nil, .cons _ _, _, _, _, e => by
  unfold lexD at e
  cases e
  exact GoodP.nil
 | _ :: _, [], A, s, _, _, _, _, r, .cons _ _, .nil, _, _, _, e => by
  unfold lexD at e
  cases e
  exact GoodP.nil
 | x :: xs, y :: ys, A, s, _, _, _, _, r, .cons r1 r2, .cons q1 q2, ha, hb, hu, e => by
  simp only [y1j, y1e] at ha hb
  simp only [y1h] at hu
  unfold lexD at e
  have he := eqAt_reads x y A s _ _ _ _ r1 q1 ha.1 hb.1 (room_head hu)
  split at e
  next h =>
   rw [h] at he
   have ih := zcw xs ys A s _ _ _ _ r r2 q2 ha.2 hb.2 (room_tail hu) e
   rw [y29]
   simp only [y0x, Nat.add_lt_add_iff_right]
   exact .eq he ih
  next h =>
   rw [Bool.not_eq_true] at h
   rw [h] at he
   rw [y29]
   exact .lt he (zn6 x y A s _ _ _ _ r r1 q1 ha.1 hb.1 (room_head hu) e)
end
end
section
variable {prog : y0r} {w : World} {A : Around} {R : Result -> y04 -> Prop} {I : Addr} {fp wr : List Addr} {G : Array GenState -> Array GenState -> Prop} {St : Nat -> y04 -> Prop} {items : Array Value}
variable {E : Value -> y04 -> Prop} {s : y04}
end
section
variable {X : Cx} {e : Expr} {es : List Expr} {fs : List Fe} {p pos : Pos}
end
end D
end
section
namespace D
open PySem PySem.Spec PyProof.Rows L2
variable [Tbl]
def relN (scope1 sc0 : Scope) : List (Str × NameKind) := scope1.names.map fun (n, k) => if (k == .free && sc0.kind == .function && sc0.names.lookup n == some .cell) then (n, .cell) else (n, k)
def zok (scope scope1 sc0 : Scope) (N : List Str) (caps : List (Nat × Str)) : Bool :=
 decide (scope.kind = .function) && scope.names.all (fun y => (decide (y.2 ≠ .local) || decide (scope.names.lookup y.1 = some .local)) && decide (y.2 ≠ .cell) && (decide (y.2 ≠ .free) || decide ((relN scope1 sc0).lookup y.1 = some .cell) || decide ((relN scope1 sc0).lookup y.1 = some .free)))
  && caps.all (fun q => decide (N[q.1]? = some q.2) && decide (scope.names.lookup q.2 = some .free)) && decide ((caps.map (·.1)).Nodup)
theorem zqb {X0 : Cx} {scope scope1 sc0 : Scope} {own N1 : List Str} {caps : List (Nat × Str)} {cl : List (Str × Addr)} {C : Addr} {s₀ : y04} {H₀ : Hp} {fp : List Addr} {pn : List (Addr × Obj)} (N : List Str) (hsc : X0.env.scope = sc0) (hN : N1 = N) (hc : X0.calm = true) (h : zok scope scope1 sc0 N caps = true) :
  CompOk (z2x X0 N1 scope1 cl C s₀ H₀ fp pn) scope own caps := by
 simp only [zok, y1e, List.all_eq_true, decide_eq_true_eq, Bool.or_eq_true] at h
 obtain ⟨⟨⟨h1, h2⟩, h3⟩, h4⟩ := h
 have hk : ∀ x, (z2x X0 N1 scope1 cl C s₀ H₀ fp pn).env.kindOf x = (relN scope1 sc0).lookup x := fun x => by
  have e : (z2x X0 N1 scope1 cl C s₀ H₀ fp pn).env.kindOf x = (relabel scope1 X0.env).names.lookup x := rfl
  rw [e]
  have : (relabel scope1 X0.env).names = relN scope1 sc0 := by
   subst hsc
   rfl
  rw [this]
 refine ⟨h1, fun y hy hl => ?_, fun y hy => (h2 y hy).1.2, fun y hy hf => ?_, fun q hq => by show N1[q.1]? = _ /\ _; rw [hN]; exact h3 q hq, h4, hc⟩
 ·rcases (h2 y hy).1.1 with z | z
  ·exact absurd hl z
  ·exact z
 ·rw [hk]
  rcases (h2 y hy).2 with (z | z) | z
  ·exact absurd hf z
  ·exact .inl z
  ·exact .inr z
end D
end
section
namespace D
open PySem
inductive Ag where
 | v (f : Fe) | o (i : Nat)
abbrev Fx := Ev -> Option (T × Ev)
abbrev Fo := Ev -> Option Sl
def objF (c i : Nat) (ε : Ev) : Option (Md × List Sl) := match ε[i]? with
 | some (some (.obj m c' fs)) => if c' = c then some (m, fs) else none
 | _ => none
def fld (c i j : Nat) : Fe := fun ε => (objF c i ε).bind fun o => match o.2[j]? with
 | some (.imm t) => some t
 | some (.own ts) => some (.list ts)
 | _ => none
def fldV (c i j : Nat) : Fe := fun ε => (objF c i ε).bind fun o => match o.2[j]? with
 | some (.imm t) => some t
 | _ => none
def fldD (c i j : Nat) : Ev -> Option (List (Key × T)) := fun ε => (objF c i ε).bind fun o => match o.2[j]? with
 | some (.dic kvs) => some kvs
 | _ => none
def fldL (c i j : Nat) : Ev -> Option (List T) := fun ε => (objF c i ε).bind fun o => match o.2[j]? with
 | some (.own ts) => some ts
 | _ => none
def fGet (c i j : Nat) (k : Fe) : Fe := fun ε => (k ε).bind fun t => (z5a t).bind fun k => (fldD c i j ε).bind fun kvs => getD kvs k
def zlm (c i j : Nat) : Fe := fun ε => (fldD c i j ε).map fun kvs => .tuple (kvs.map (·.2))
def setF (c i j : Nat) (s : Sl) (ε : Ev) : Option Ev := (objF c i ε).bind fun o => if o.1 = .ro then none else
 if j < o.2.length then some (ε.set i (some (.obj o.1 c (o.2.set j s)))) else if j = o.2.length then some (ε.set i (some (.obj o.1 c (o.2 ++ [s])))) else none
def asgF (c i j : Nat) (f : Fe) : Fs := fun ε => (f ε).bind fun t => (setF c i j (.imm t) ε).map .nx
def z9o (c i j : Nat) (f : Fe) : Fs := fun ε => (f ε).bind fun t => match t with
 | .list ts => (setF c i j (.own ts) ε).map .nx
 | _ => none
def zdl : T -> T -> Option Int
 | .int i, .int j => some (i + j)
 | _, _ => none
def augF (c i j : Nat) (f : Fe) : Fs := fun ε => (fldV c i j ε).bind fun x => (f ε).bind fun y => (zdl x y).bind fun z => (setF c i j (.imm (.int z)) ε).map .nx
def appF (c i j : Nat) (f : Fe) : Fs := fun ε => (f ε).bind fun t => (fldL c i j ε).bind fun ts => if ts.length < big then (setF c i j (.own (ts ++ [t])) ε).map .nx else none
def rmF (c i j : Nat) (f : Fe) : Fs := fun ε => (f ε).bind fun t => (fldL c i j ε).bind fun ts => match t, zak ts with
 | .str x, some ss => if x ∈ ss then (setF c i j (.own ((ss.erase x).map .str)) ε).map .nx else none
 | _, _ => none
def zcl : T -> Option T
 | .tuple xs => some (.list xs)
 | .list xs => some (.list xs)
 | _ => none
def za7 : T -> Option T
 | .list xs => if xs.length < 64 then (zak xs).map fun ss => .list ((z75 ss).map .str) else none
 | _ => none
def zei (c i j : Nat) (k v : Fe) : Fs := fun ε => (v ε).bind fun v => (k ε).bind fun t => (z5a t).bind fun k => (fldD c i j ε).bind fun kvs => if kvs.length < big then (setF c i j (.dic (putD kvs k v)) ε).map .nx else none
def zg1 (c i j : Nat) (k v : Fe) : Fs := fun ε => (k ε).bind fun t => (z5a t).bind fun k => (fldD c i j ε).bind fun kvs => (getD kvs k).bind fun x => (v ε).bind fun y => (zdl x y).bind fun z => if kvs.length < big then (setF c i j (.dic (putD kvs k (.int z))) ε).map .nx else none
def zipD : List T -> List T -> Option (List (Key × T))
 | [], _ => some []
 | _ :: _, [] => some []
 | k :: ks, v :: vs => (z5a k).bind fun k => (zipD ks vs).map fun r => (k, v) :: r
def zjm (c i j : Nat) (ks vs : Fe) : Fs := fun ε => (ks ε).bind fun tk => (vs ε).bind fun tv => match tk, tv with
 | .list lk, .tuple lv => (zipD lk lv).bind fun kvs => if (kvs.map (·.1)).Nodup /\ kvs.length <= 1000 /\ (∀ t ∈ lk, (z5a t).isSome = true) then (setF c i j (.dic kvs) ε).map .nx else none
 | _, _ => none
def z9y (c : Nat) (d : List Sl -> Option T) (i : Nat) (fs : List Fe) : Fe := fun ε => (objF c i ε).bind fun o => (args fs ε).bind fun ts => d (.obj .ro c o.2 :: ts.map .imm)
def z1n (c : Nat) (d : List Sl -> Option (T × List Sl)) (i : Nat) (fs : List Fe) : Fx := fun ε => (objF c i ε).bind fun o => if o.1 = .ro then none else (args fs ε).bind fun ts =>
 (d (.obj .lent c o.2 :: ts.map .imm)).map fun r => (r.1, ε.set i (some (.obj o.1 c r.2)))
def newO (c : Nat) (d : List Sl -> Option (T × List Sl)) (fs : List Fe) : Fo := fun ε => (args fs ε).bind fun ts => (d (.obj .lent c [] :: ts.map .imm)).bind fun r => match r.1 with
 | .none => some (.obj .own c r.2)
 | _ => none
def zjg (d : List T -> Option Sl) (fs : List Fe) : Fo := fun ε => (args fs ε).bind d
def z9c (c : Nat) : Sl -> Option (List Sl)
 | .obj .own c' fs => if c' = c then some fs else none
 | _ => none
def ofO (c : Nat) (d : List Sl -> Option T) (o : Fo) (fs : List Fe) : Fe := fun ε => (o ε).bind fun s => (z9c c s).bind fun os => (args fs ε).bind fun ts => d (.obj .ro c os :: ts.map .imm)
def zdo (c j : Nat) (o : Fo) : Fe := fun ε => (o ε).bind fun s => (z9c c s).bind fun os => match os[j]? with
 | some (.own ts) => some (.list ts)
 | _ => none
def exX (f : Fx) : Fs := fun ε => (f ε).map fun r => .nx r.2
def rtnX (f : Fx) : Fs := fun ε => (f ε).map fun r => .rtm r.1 r.2
def rtnM (f : Fe) : Fs := fun ε => (f ε).map fun t => .rtm t ε
def asgX (i : Nat) (f : Fx) : Fs := fun ε => (f ε).map fun r => .nx (r.2.set i (some (.imm r.1)))
def asgO (i : Nat) (f : Fo) : Fs := fun ε => (f ε).map fun s => .nx (ε.set i (some s))
def rtnO (i : Nat) : Fs := fun ε => match ε[i]? with
 | some (some (.obj .own c fs)) => some (.rto (.obj .own c fs))
 | _ => none
def zdd : Fs := fun ε => some (.rtm .none ε)
def zgk : Fs := fun _ => none
def z4m (n : Nat) (ss : List Sl) : Ev := ss.map some ++ y0h (n - ss.length) none
def runR (b : Fs) (n : Nat) (ss : List Sl) : Option T := (b (z4m n ss)).bind fun o => match o with
 | .rt t => some t
 | .nx _ => some .none
 | _ => none
def z7m (c p : Nat) (ε : Ev) : Option (List Sl) := match ε[p]? with
 | some (some (.obj .lent c' fs)) => if c' = c then some fs else none
 | _ => none
def runM (c p : Nat) (b : Fs) (n : Nat) (ss : List Sl) : Option (T × List Sl) := (b (z4m n ss)).bind fun o => match o with
 | .rtm t ε => (z7m c p ε).map fun fs => (t, fs)
 | .nx ε => (z7m c p ε).map fun fs => (.none, fs)
 | _ => none
def ownS : Sl -> Option Sl
 | .obj .own c fs => some (.obj .own c fs)
 | _ => none
def runO (b : Fs) (n : Nat) (ts : List T) : Option Sl := (b ((ts.map fun t => some (.imm t)) ++ y0h (n - ts.length) none)).bind fun o => match o with
 | .rto s => ownS s
 | _ => none
end D
end
section
namespace D
open PySem PySem.Spec PyProof.Rows L2
variable [Tbl]
section
variable {K : y00} {F F' O : Addr -> Prop} {H H' : Hp} {E : En}
theorem RelF.length : ∀ {fs : List Sl} {vs : List V}, RelF K F H fs vs -> fs.length = vs.length
 | [], vs, r => by
  have e : vs = [] := r
  rw [e]
  rfl
 | s :: ss, vs, r => by
  obtain ⟨v, z, rfl, _, r2⟩ := r
  simp [RelF.length r2]
theorem RelF.get : ∀ {fs : List Sl} {vs : List V} {j : Nat} {s : Sl}, RelF K F H fs vs -> fs[j]? = some s -> ∃ v, vs[j]? = some v /\ z8y K F H s v
 | [], vs, j, s, r, e => by simp at e
 | s :: ss, vs, 0, u, r, e => by
  obtain ⟨v, z, rfl, r1, _⟩ := r
  simp at e
  subst e
  exact ⟨v, rfl, r1⟩
 | s :: ss, vs, j + 1, u, r, e => by
  obtain ⟨v, z, rfl, _, r2⟩ := r
  obtain ⟨w, h1, h2⟩ := RelF.get (j := j) (s := u) r2 (by simpa using e)
  exact ⟨w, by simpa using h1, h2⟩
theorem RelF.set : ∀ {fs : List Sl} {vs : List V} {j : Nat} {s : Sl} {v : V}, RelF K F H fs vs -> Kp K F H F' H' -> (∀ (k : Nat) (u : Sl) (w : V), k ≠ j -> fs[k]? = some u -> vs[k]? = some w -> ∀ b ∈ fp0 u w, H' b = H b) -> z8y K F' H' s v -> RelF K F' H' (fs.set j s) (vs.set j v)
 | [], vs, j, s, v, r, _, _, _ => by
  have e : vs = [] := r
  subst e
  exact rfl
 | u :: ss, vs, 0, s, v, r, kp, hk, h => by
  obtain ⟨w, z, rfl, r1, r2⟩ := r
  refine ⟨v, z, rfl, h, r2.keep kp fun b hb => ?_⟩
  have : ∀ {ss : List Sl} {z : List V} (n : Nat), (∀ (k : Nat) (u : Sl) (w : V), ss[k]? = some u -> z[k]? = some w -> ∀ b ∈ fp0 u w, H' b = H b) -> b ∈ fpF ss z -> H' b = H b := by
   intro ss
   induction ss with
   | nil => intro z n _ hb; simp [fpF] at hb
   | cons s1 ss ih =>
    intro z n hk hb
    cases z with
    | nil => simp [fpF] at hb
    | cons v1 z =>
     rw [show fpF (s1 :: ss) (v1 :: z) = fp0 s1 v1 ++ fpF ss z from rfl] at hb
     rcases y13.mp hb with q | q
     ·exact hk 0 s1 v1 rfl rfl b q
     ·exact ih n (fun k u w e1 e2 => hk (k + 1) u w (by simpa using e1) (by simpa using e2)) q
  exact this 0 (fun k u w e1 e2 => hk (k + 1) u w (by omega) (by simpa using e1) (by simpa using e2)) hb
 | u :: ss, vs, j + 1, s, v, r, kp, hk, h => by
  obtain ⟨w, z, rfl, r1, r2⟩ := r
  exact ⟨w, z.set j v, rfl, r1.keep kp fun b hb => hk 0 u w (by omega) rfl rfl b hb, RelF.set r2 kp (fun k u w hkj e1 e2 => hk (k + 1) u w (by omega) (by simpa using e1) (by simpa using e2)) h⟩
theorem RelF.snoc : ∀ {fs : List Sl} {vs : List V} {s : Sl} {v : V}, RelF K F H fs vs -> z8y K F H s v -> RelF K F H (fs ++ [s]) (vs ++ [v])
 | [], vs, s, v, r, h => by
  have e : vs = [] := r
  subst e
  exact ⟨v, [], rfl, h, rfl⟩
 | u :: ss, vs, s, v, r, h => by
  obtain ⟨w, z, rfl, r1, r2⟩ := r
  exact ⟨w, z ++ [v], rfl, r1, RelF.snoc r2 h⟩
theorem zdt : ∀ {fs : List Sl} {vs : List V} {s : Sl} {v : V}, fs.length = vs.length -> fpF (fs ++ [s]) (vs ++ [v]) = fpF fs vs ++ fp0 s v
 | [], [], s, v, _ => by simp [fpF]
 | u :: ss, w :: z, s, v, h => by
  show fp0 u w ++ fpF (ss ++ [s]) (z ++ [v]) = (fp0 u w ++ fpF ss z) ++ fp0 s v
  rw [zdt (by simpa using h), List.append_assoc]
 | [], w :: z, _, _, h => by simp at h
 | u :: ss, [], _, _, h => by simp at h
theorem z7n : ∀ {fs : List Sl} {vs : List V} {j : Nat} {s : Sl} {v : V} {b : Addr}, fs[j]? = some s -> vs[j]? = some v -> b ∈ fp0 s v -> b ∈ fpF fs vs
 | [], vs, j, s, v, b, e, _, _ => by simp at e
 | u :: ss, [], j, s, v, b, _, e, _ => by simp at e
 | u :: ss, w :: z, 0, s, v, b, e1, e2, h => by
  simp at e1 e2
  subst e1 e2
  exact y13.mpr (.inl h)
 | u :: ss, w :: z, j + 1, s, v, b, e1, e2, h => y13.mpr (.inr (z7n (j := j) (by simpa using e1) (by simpa using e2) h))
theorem zll : ∀ {fs : List Sl} {vs : List V} {b : Addr}, b ∈ fpF fs vs -> ∃ (j : Nat) (s : Sl) (v : V), fs[j]? = some s /\ vs[j]? = some v /\ b ∈ fp0 s v
 | [], vs, b, h => by simp [fpF] at h
 | u :: ss, [], b, h => by simp [fpF] at h
 | u :: ss, w :: z, b, h => by
  rcases y13.mp (show b ∈ fp0 u w ++ fpF ss z from h) with q | q
  ·exact ⟨0, u, w, rfl, rfl, q⟩
  ·obtain ⟨j, s, v, e1, e2, h⟩ := zll q
   exact ⟨j + 1, s, v, by simpa using e1, by simpa using e2, h⟩
theorem zds : ∀ {fs : List Sl} {vs : List V} {j k : Nat} {s u : Sl} {v w : V} {b : Addr}, (fpF fs vs).Nodup -> j ≠ k -> fs[j]? = some s -> vs[j]? = some v -> fs[k]? = some u -> vs[k]? = some w -> b ∈ fp0 s v -> b ∈ fp0 u w -> False
 | [], vs, j, k, s, u, v, w, b, _, _, e, _, _, _, _, _ => by simp at e
 | x :: ss, [], j, k, s, u, v, w, b, _, _, _, e, _, _, _, _ => by simp at e
 | x :: ss, y :: z, j, k, s, u, v, w, b, nd, hjk, e1, e2, e3, e4, h1, h2 => by
  have nd' : (fp0 x y ++ fpF ss z).Nodup := nd
  rw [y1r] at nd'
  obtain ⟨n1, n2, n3⟩ := nd'
  cases j with
  | zero =>
   cases k with
   | zero => exact hjk rfl
   | succ k =>
    simp at e1 e2
    subst e1 e2
    exact n3 b h1 b (z7n (j := k) (by simpa using e3) (by simpa using e4) h2) rfl
  | succ j =>
   cases k with
   | zero =>
    simp at e3 e4
    subst e3 e4
    exact n3 b h2 b (z7n (j := j) (by simpa using e1) (by simpa using e2) h1) rfl
   | succ k => exact zds (j := j) (k := k) n2 (by omega) (by simpa using e1) (by simpa using e2) (by simpa using e3) (by simpa using e4) h1 h2
theorem z62 {fs : List Sl} {vs : List V} {j : Nat} {s : Sl} {v : V} {b : Addr} (h : b ∈ fpF (fs.set j s) (vs.set j v)) : b ∈ fpF fs vs \/ b ∈ fp0 s v := by
 obtain ⟨k, u, w, e1, e2, h⟩ := zll h
 by_cases hk : j = k
 ·subst hk
  have l1 := (y0l.mp e1).1
  have l2 := (y0l.mp e2).1
  simp at l1 l2
  rw [y2g, if_pos rfl, if_pos l1] at e1
  rw [y2g, if_pos rfl, if_pos l2] at e2
  cases e1
  cases e2
  exact .inr h
 ·rw [y2g, if_neg hk] at e1 e2
  exact .inl (z7n e1 e2 h)
theorem z61 : ∀ {fs : List Sl} {vs : List V} {j : Nat} {s : Sl} {v : V}, (fpF fs vs).Nodup -> (fp0 s v).Nodup -> (∀ b ∈ fp0 s v, ∀ (k : Nat) (u : Sl) (w : V), k ≠ j -> fs[k]? = some u -> vs[k]? = some w -> b ∉ fp0 u w) -> (fpF (fs.set j s) (vs.set j v)).Nodup
 | [], vs, j, s, v, _, _, _ => by simp [fpF]
 | x :: ss, [], j, s, v, _, _, _ => by cases j <;> simp [fpF]
 | x :: ss, y :: z, 0, s, v, nd, n0, ha => by
  have nd' : (fp0 x y ++ fpF ss z).Nodup := nd
  rw [y1r] at nd'
  show (fp0 s v ++ fpF ss z).Nodup
  rw [y1r]
  refine ⟨n0, nd'.2.1, fun b hb c hc e => ?_⟩
  subst e
  obtain ⟨k, u, w, e1, e2, h⟩ := zll hc
  exact ha b hb (k + 1) u w (by omega) (by simpa using e1) (by simpa using e2) h
 | x :: ss, y :: z, j + 1, s, v, nd, n0, ha => by
  have nd' : (fp0 x y ++ fpF ss z).Nodup := nd
  rw [y1r] at nd'
  show (fp0 x y ++ fpF (ss.set j s) (z.set j v)).Nodup
  rw [y1r]
  refine ⟨nd'.1, z61 nd'.2.1 n0 fun b hb k u w hk e1 e2 => ha b hb (k + 1) u w (by omega) (by simpa using e1) (by simpa using e2), fun b hb c hc e => ?_⟩
  subst e
  rcases z62 hc with q | q
  ·exact nd'.2.2 b hb b q rfl
  ·exact ha b q 0 x y (by omega) rfl rfl hb
theorem zmn (v : V) : (rf v).Nodup := by
 unfold rf
 split <;> simp
theorem zfa (s : Sl) (v : V) : (fp0 s v).Nodup := by
 cases s <;> first | exact zmn v | simp [fp0]
theorem z91 : ∀ {ns : List Str} {vs : List V} {j : Nat} {f : Str} {v : V}, ns.Nodup -> ns[j]? = some f -> vs[j]? = some v -> (ns.zip vs).lookup f = some v
 | [], _, _, _, _, _, e, _ => by simp at e
 | _ :: _, [], _, _, _, _, _, e => by simp at e
 | n :: ns, w :: vs, 0, f, v, _, e1, e2 => by
  simp at e1 e2
  subst e1 e2
  simp [y1n]
 | n :: ns, w :: vs, j + 1, f, v, nd, e1, e2 => by
  have ne : f ≠ n := by
   rintro rfl
   exact (y0s.mp nd).1 (y21 (by simpa using e1))
  have hb : (f == n) = false := beq_eq_false_iff_ne.mpr ne
  simp only [y29, y1n, hb]
  exact z91 (j := j) (y0s.mp nd).2 (by simpa using e1) (by simpa using e2)
theorem z2r : ∀ {ns : List Str} {vs : List V} {f : Str}, f ∉ ns -> (ns.zip vs).lookup f = none
 | [], _, _, _ => by simp
 | _ :: _, [], _, _ => by simp
 | n :: ns, w :: vs, f, h => by
  have ne : f ≠ n := fun e => h (by simp [e])
  have hb : (f == n) = false := beq_eq_false_iff_ne.mpr ne
  simp only [y29, y1n, hb]
  exact z2r fun z => h (y05 _ z)
theorem zjp : ∀ {ns : List Str} {vs : List V} {j : Nat} {f : Str} {v : V}, ns.Nodup -> ns[j]? = some f -> j < vs.length -> L2.putF f v (ns.zip vs) = ns.zip (vs.set j v)
 | [], _, _, _, _, _, e, _ => by simp at e
 | _ :: _, [], _, _, _, _, _, h => by simp at h
 | n :: ns, w :: vs, 0, f, v, _, e1, h => by
  simp at e1
  subst e1
  simp [L2.putF]
 | n :: ns, w :: vs, j + 1, f, v, nd, e1, h => by
  have ne : n ≠ f := by
   rintro rfl
   exact (y0s.mp nd).1 (y21 (by simpa using e1))
  simp only [y29, y1o, L2.putF, if_neg ne]
  rw [zjp (j := j) (y0s.mp nd).2 (by simpa using e1) (by simpa using h)]
theorem zag : ∀ {ns : List Str} {vs : List V} {f : Str} {v : V}, ns.Nodup -> ns[vs.length]? = some f -> L2.putF f v (ns.zip vs) = ns.zip (vs ++ [v])
 | [], _, _, _, _, e => by simp at e
 | n :: ns, [], f, v, _, e1 => by
  simp at e1
  subst e1
  simp [L2.putF]
 | n :: ns, w :: vs, f, v, nd, e1 => by
  have ne : n ≠ f := by
   rintro rfl
   exact (y0s.mp nd).1 (y21 (by simpa using e1))
  simp only [y29, List.cons_append, L2.putF, if_neg ne]
  rw [zag (y0s.mp nd).2 (by simpa using e1)]
end
structure ClOk (K : y00) (c : Nat) (C : Addr) (ns : List Str) : Prop where
 ck : Tbl.ck c = some C
 cn : Tbl.cn c = ns
 cls : Cls K C
 nd : ns.Nodup
 na : ∀ f ∈ ns, z8z K C f
 few : ns.length < 1000
section
variable {K : y00} {F₀ F F1 O : Addr -> Prop} {H H1 : Hp} {E : En} {ε ε' : Ev} {σ : L2.St} {c C i j : Nat} {ns : List Str}
theorem z32 {m : Md} {fs : List Sl} (h : objF c i ε = some (m, fs)) : ε[i]? = some (some (.obj m c fs)) := by
 unfold objF at h
 split at h
 next m' c' fs' e =>
  split at h
  next hc =>
   cases h
   rw [e, hc]
  next => cases h
 next => cases h
theorem z8g {m : Md} {fs : List Sl} (k : ClOk K c C ns) (r : RelE K F₀ E O F H ε σ) (h : objF c i ε = some (m, fs)) :
  ∃ a vs dx, σ[i]? = some (some (.ref a)) /\ H a = some (.ins C dx (ns.zip vs)) /\ vs.length <= ns.length /\ z5c H a c vs /\ RelF K F H fs vs /\ (a :: fpF fs vs).Nodup /\ (∀ b ∈ a :: fpF fs vs, OwnM E O F m b) /\ (m = .lent -> a = E.la) := by
 obtain ⟨v, h1, a, vs, rfl, ha, hf, nd, ow, la⟩ := r.val i _ (z32 h)
 obtain ⟨hl, hx⟩ := id ha
 rw [k.ck] at hx
 obtain ⟨dx, hx⟩ := hx
 rw [k.cn] at hl hx
 exact ⟨a, vs, dx, h1, hx, hl, ha, hf, nd, ow, la⟩
theorem zhr {m : Md} (hm : m ≠ .ro) {fs : List Sl} : (Sl.obj m c fs).isOwn = true := by
 cases m with
 | ro => exact absurd rfl hm
 | own => rfl
 | lent => rfl
theorem RelE.setFld {s : Sl} {v : V} {a dx : Addr} {vs : List V} (k : ClOk K c C ns) (r : RelE K F₀ E O F H ε σ) {m : Md} {fs : List Sl} (ho : objF c i ε = some (m, fs)) (h1 : σ[i]? = some (some (.ref a))) (ha : z5c H a c vs) (he : setF c i j s ε = some ε')
  (rs : z8y K F H s v) (own : ∀ b ∈ fp0 s v, ¬ F b /\ O b /\ b ∉ fpS H (.obj m c fs) (.ref a) /\ ∀ (k : Nat) (u : Sl) (w : V), i ≠ k -> ε[k]? = some (some u) -> u.isOwn = true -> σ[k]? = some (some w) -> b ∉ fpS H u w) (hx : H a = some (.ins C dx (ns.zip vs)))
  {f : Str} (hj : ns[j]? = some f) : Kp K F H F (upd H a (.ins C dx (L2.putF f v (ns.zip vs)))) /\ RelE K F₀ E O F (upd H a (.ins C dx (L2.putF f v (ns.zip vs)))) ε' σ := by
 obtain ⟨a', vs', dx', h1', hx', hl, ha', hf, nd, ow, la⟩ := z8g k r ho
 rw [h1] at h1'
 cases h1'
 have ev : vs' = vs := by rw [<- ha.vals, <- ha'.vals]
 subst ev
 have hfp : fpS H (.obj m c fs) (.ref a) = a :: fpF fs vs' := z2y ha
 rw [hfp] at own
 unfold setF at he
 rw [ho] at he
 simp only [y0q] at he
 split at he
 next => cases he
 next hm =>
 have hlen := hf.length
 have hown : (Sl.obj m c fs).isOwn = true := zhr hm
 have ho0 : ∀ b, OwnM E O F m b <-> ¬ F b /\ O b := fun b => by
  cases m with
  | ro => exact absurd rfl hm
  | own => exact Iff.rfl
  | lent => exact Iff.rfl
 have na : ∀ b ∈ fpF fs vs', b ≠ a := fun b hb z => (y0s.mp nd).1 (z ▸ hb)
 split at he
 next hjl =>
  cases he
  have hjv : j < vs'.length := by omega
  rw [zjp k.nd hj hjv]
  have hm2 : ∀ b ∈ a :: fpF (fs.set j s) (vs'.set j v), b ∈ a :: fpF fs vs' \/ b ∈ fp0 s v := fun b hb => by
   rcases y09.mp hb with rfl | hb
   ·exact .inl y0f
   ·rcases z62 hb with q | q
    ·exact .inl (y05 _ q)
    ·exact .inr q
  have hat : ∀ o' : Hp, o' a = some (.ins C dx (ns.zip (vs'.set j v))) -> z5c o' a c (vs'.set j v) := fun o' e => by
   refine ⟨by rw [k.cn]; simpa using hl, ?_⟩
   rw [k.ck, k.cn]
   exact ⟨dx, e⟩
  refine r.mutG (z32 ho) hown h1 (by rw [hfp]; exact y0f) (fun kp => ⟨a, vs'.set j v, rfl, hat _ z0d, ?_, ?_, fun b hb => ?_, la⟩) fun b hb => ?_
  ·refine RelF.set hf kp (fun k u w _ e1 e2 b hb => z0j (na b (z7n e1 e2 hb))) (rs.keep kp fun b hb => z0j fun z => (own b hb).2.2.1 (z ▸ y0f))
  ·refine y0s.mpr ⟨fun z => ?_, z61 (y0s.mp nd).2 (zfa s v) fun b hb k u w _ e1 e2 q => (own b hb).2.2.1 (y05 _ (z7n e1 e2 q))⟩
   rcases z62 z with q | q
   ·exact (y0s.mp nd).1 q
   ·exact (own a q).2.2.1 y0f
  ·rcases hm2 b hb with q | q
   ·exact ow b q
   ·exact (ho0 b).mpr ⟨(own b q).1, (own b q).2.1⟩
  ·rw [z2y (hat _ z0d)] at hb
   rcases hm2 b hb with q | q
   ·exact .inl (by rw [hfp]; exact q)
   ·exact .inr (own b q).2.2.2
 next hjl =>
  split at he
  next hje =>
   cases he
   have hjv : j = vs'.length := by omega
   rw [zag k.nd (by rw [<- hjv]; exact hj)]
   have hjn : j < ns.length := (y0l.mp hj).1
   have hm2 : ∀ b ∈ a :: fpF (fs ++ [s]) (vs' ++ [v]), b ∈ a :: fpF fs vs' \/ b ∈ fp0 s v := fun b hb => by
    rw [zdt hlen] at hb
    rcases y09.mp hb with rfl | hb
    ·exact .inl y0f
    ·rcases y13.mp hb with q | q
     ·exact .inl (y05 _ q)
     ·exact .inr q
   have hat : ∀ o' : Hp, o' a = some (.ins C dx (ns.zip (vs' ++ [v]))) -> z5c o' a c (vs' ++ [v]) := fun o' e => by
    refine ⟨by rw [k.cn]; simp; omega, ?_⟩
    rw [k.ck, k.cn]
    exact ⟨dx, e⟩
   refine r.mutG (z32 ho) hown h1 (by rw [hfp]; exact y0f) (fun kp => ⟨a, vs' ++ [v], rfl, hat _ z0d, ?_, ?_, fun b hb => ?_, la⟩) fun b hb => ?_
   ·exact RelF.snoc (hf.keep kp fun b hb => z0j (na b hb)) (rs.keep kp fun b hb => z0j fun z => (own b hb).2.2.1 (z ▸ y0f))
   ·rw [zdt hlen]
    refine y0s.mpr ⟨fun z => ?_, y1r.mpr ⟨(y0s.mp nd).2, zfa s v, fun b hb d hd e => ?_⟩⟩
    ·rcases y13.mp z with q | q
     ·exact (y0s.mp nd).1 q
     ·exact (own a q).2.2.1 y0f
    ·subst e
     exact (own b hd).2.2.1 (y05 _ hb)
   ·rcases hm2 b hb with q | q
    ·exact ow b q
    ·exact (ho0 b).mpr ⟨(own b q).1, (own b q).2.1⟩
   ·rw [z2y (hat _ z0d)] at hb
    rcases hm2 b hb with q | q
    ·exact .inl (by rw [hfp]; exact q)
    ·exact .inr (own b q).2.2.2
  next => cases he
theorem RelE.mutFld {s s' : Sl} {a b : Addr} {vs : List V} {o' : HO} (r : RelE K F₀ E O F H ε σ) {m : Md} {fs : List Sl} (ho : objF c i ε = some (m, fs)) (h1 : σ[i]? = some (some (.ref a))) (ha : z5c H a c vs) (he : setF c i j s' ε = some ε')
  (hs : fs[j]? = some s) (hv : vs[j]? = some (.ref b)) (hi : b ∈ fp0 s (.ref b)) (hi' : fp0 s' (.ref b) = [b]) (rs : Kp K F H F (upd H b o') -> z8y K F (upd H b o') s' (.ref b)) : Kp K F H F (upd H b o') /\ RelE K F₀ E O F (upd H b o') ε' σ := by
 obtain ⟨v, h1', a', vs', ev, ha', hf, nd, ow, la⟩ := r.val i _ (z32 ho)
 rw [h1] at h1'
 cases h1'
 cases ev
 have ev : vs' = vs := by rw [<- ha.vals, <- ha'.vals]
 subst ev
 have hfp : fpS H (.obj m c fs) (.ref a) = a :: fpF fs vs' := z2y ha
 unfold setF at he
 rw [ho] at he
 simp only [y0q] at he
 split at he
 next => cases he
 next hm =>
 have hjl : j < fs.length := (y0l.mp hs).1
 rw [if_pos hjl] at he
 cases he
 have hbm : b ∈ fpF fs vs' := z7n hs hv hi
 have hba : a ≠ b := fun z => (y0s.mp nd).1 (z ▸ hbm)
 have hat : z5c (upd H b o') a c vs' := ha.keep (z0j hba)
 have eset : vs'.set j (.ref b) = vs' := by
  obtain ⟨hl, e⟩ := y0l.mp hv
  rw [<- e]
  exact List.set_getElem_self hl
 have hfe : ∀ x ∈ fpF (fs.set j s') vs', x ∈ fpF fs vs' := fun x hx => by
  rw [<- eset] at hx
  rcases z62 hx with q | q
  ·exact q
  ·rw [hi'] at q
   rw [y11.mp q]
   exact hbm
 refine r.mutG (z32 ho) (zhr hm) h1 (by rw [hfp]; exact y05 _ hbm) (fun kp => ⟨a, vs', rfl, hat, ?_, ?_, fun x hx => ?_, la⟩) fun x hx => ?_
 ·rw [<- eset]
  exact RelF.set hf kp (fun k u w hk e1 e2 x hx => z0j fun z => zds (y0s.mp nd).2 (Ne.symm hk) hs hv e1 e2 hi (z ▸ hx)) (rs kp)
 ·refine y0s.mpr ⟨fun z => (y0s.mp nd).1 (hfe a z), ?_⟩
  rw [<- eset]
  refine z61 (y0s.mp nd).2 (by rw [hi']; simp) fun x hx k u w hk e1 e2 q => ?_
  rw [hi'] at hx
  rw [y11.mp hx] at q
  exact zds (y0s.mp nd).2 (Ne.symm hk) hs hv e1 e2 hi q
 ·rcases y09.mp hx with rfl | hx
  ·exact ow _ y0f
  ·exact ow x (y05 _ (hfe x hx))
 ·rw [z2y hat] at hx
  rw [hfp]
  rcases y09.mp hx with rfl | hx
  ·exact .inl y0f
  ·exact .inl (y05 _ (hfe x hx))
end
end D
end
section
namespace D
open PySem PySem.Spec PyProof.Rows L2
variable [Tbl]
section
variable {K : y00} {F₀ F O : Addr -> Prop} {H : Hp} {E : En} {ε : Ev} {σ : L2.St} {c C i j : Nat} {ns : List Str} {f : Str}
theorem z6r {m : Md} {fs : List Sl} {s : Sl} (k : ClOk K c C ns) (r : RelE K F₀ E O F H ε σ) (h : objF c i ε = some (m, fs)) (hs : fs[j]? = some s) (hj : ns[j]? = some f) :
  ∃ a vs dx v, σ[i]? = some (some (.ref a)) /\ H a = some (.ins C dx (ns.zip vs)) /\ (ns.zip vs).lookup f = some v /\ z5c H a c vs /\ vs[j]? = some v /\ z8y K F H s v /\ (∀ b ∈ fp0 s v, OwnM E O F m b /\ b ≠ a) := by
 obtain ⟨a, vs, dx, h1, hx, hl, ha, hf, nd, ow, la⟩ := z8g k r h
 obtain ⟨v, hv, rv⟩ := hf.get hs
 refine ⟨a, vs, dx, v, h1, hx, z91 k.nd hj hv, ha, hv, rv, fun b hb => ⟨ow b (y05 _ (z7n hs hv hb)), fun z => (y0s.mp nd).1 (z ▸ z7n hs hv hb)⟩⟩
theorem z8i (k : ClOk K c C ns) (hj : ns[j]? = some f) : z8z K C f := k.na f (y21 hj)
end
section
variable {X : Cx} {c C i j : Nat} {ns : List Str} {f : Str} {o e a : Expr} {g h : Fe} {pos apos : Pos}
theorem z4t (k : ClOk X.K c C ns) (hn : PE X o (tVar i)) (hj : ns[j]? = some f := by rfl) (hb : attributeBase o f X.env (eval o X.env) = eval o X.env := by rfl) : PEr X (.Attribute o f pos) (fld c i j) :=
 z10 (z8e hn hb) fun σ H Q ⟨F₀, H₀, O, F, ε, t, r, e, kk⟩ => by
 simp only [fld, y01] at e
 obtain ⟨⟨m, fs⟩, ho, e⟩ := e
 split at e
 next t' hs =>
  cases e
  obtain ⟨a, vs, dx, v, h1, hx, hl, ha, hv, rv, _⟩ := z6r k r ho hs hj
  exact ⟨_, h1, a, C, dx, _, v, rfl, hx, k.cls, z8i k hj, hl, kk v F H (Ext.refl r.dom) (.inl rv)⟩
 next ts hs =>
  cases e
  obtain ⟨a, vs, dx, v, h1, hx, hl, ha, hv, ⟨b, us, eb, hb, rb⟩, _⟩ := z6r k r ho hs hj
  subst eb
  exact ⟨_, h1, a, C, dx, _, _, rfl, hx, k.cls, z8i k hj, hl, kk _ F H (Ext.refl r.dom) (.inr ⟨ts, b, us, rfl, rfl, hb, rb⟩)⟩
 next => cases e
theorem z4s (k : ClOk X.K c C ns) (hn : PE X o (tVar i)) (hj : ns[j]? = some f := by rfl) (hb : attributeBase o f X.env (eval o X.env) = eval o X.env := by rfl) : PEv X (.Attribute o f pos) (fldV c i j) :=
 z10 (z8e hn hb) fun σ H Q ⟨F₀, H₀, O, F, ε, t, r, e, kk⟩ => by
 simp only [fldV, y01] at e
 obtain ⟨⟨m, fs⟩, ho, e⟩ := e
 split at e
 next t' hs =>
  cases e
  obtain ⟨a, vs, dx, v, h1, hx, hl, ha, hv, rv, _⟩ := z6r k r ho hs hj
  exact ⟨_, h1, a, C, dx, _, v, rfl, hx, k.cls, z8i k hj, hl, kk v F H (Ext.refl r.dom) rv⟩
 next => cases e
theorem z8n {ε : Ev} {kvs : List (D.Key × T)} (e : fldD c i j ε = some kvs) : ∃ m fs, objF c i ε = some (m, fs) /\ fs[j]? = some (.dic kvs) := by
 simp only [fldD, y01] at e
 obtain ⟨⟨m, fs⟩, ho, e⟩ := e
 split at e
 ·cases e
  exact ⟨m, fs, ho, by assumption⟩
 ·cases e
theorem zfb {ε : Ev} {ts : List T} (e : fldL c i j ε = some ts) : ∃ m fs, objF c i ε = some (m, fs) /\ fs[j]? = some (.own ts) := by
 simp only [fldL, y01] at e
 obtain ⟨⟨m, fs⟩, ho, e⟩ := e
 split at e
 ·cases e
  exact ⟨m, fs, ho, by assumption⟩
 ·cases e
theorem zkg (k : ClOk X.K c C ns) (hu : X.A.units + 1 < cLine) (hn : PE X o (tVar i)) (ha : PEr X a g) (hj : ns[j]? = some f := by rfl) (hb : attributeBase o f X.env (eval o X.env) = eval o X.env := by rfl) (hs : NoSl a := by intro _ _; rfl) :
  PEv X (.Subscript (.Attribute o f apos) a pos) (fGet c i j g) := z10 (zpg hu (z8e hn hb) ha hs) fun σ H Q ⟨F₀, H₀, O, F, ε, t, r, e, kk⟩ => by
 simp only [fGet, y01] at e
 obtain ⟨t', et, key, ek, kvs, ed, eg⟩ := e
 obtain ⟨m, fs, ho, hs⟩ := z8n ed
 obtain ⟨a, vs, dx, v, h1, hx, hl, ha, hv, ⟨b, us, eb, hb, rb⟩, _⟩ := z6r k r ho hs hj
 subst eb
 refine ⟨_, h1, a, C, dx, _, _, rfl, hx, k.cls, z8i k hj, hl, F₀, H₀, O, F, ε, t', r, et, fun v F1 H1 x1 q1 => ?_⟩
 have hb1 := x1.same.get hb
 have rb1 := RepD.kp (x1.kp (K := X.K)) rb
 obtain ⟨w, hw, rw'⟩ := rb1.get eg
 refine ⟨b, w, rfl, ?_, kk w F1 H1 x1 rw'⟩
 rw [z7v ek q1, <- hw]
 exact DGet.k hb1
theorem zi0 {K : y00} {F₀ F O F1 : Addr -> Prop} {H H1 : Hp} {E : En} {ε : Ev} {σ : L2.St} {b : Addr} (r : RelE K F₀ E O F H ε σ) (x : Ext F H F1 H1) (hn : H b = none) :
  ∀ (k : Nat) (u : Sl) (w : V), ε[k]? = some (some u) -> σ[k]? = some (some w) -> b ∉ fpS H1 u w := fun k u w ek hk hb => by
 obtain ⟨w', h1, h2⟩ := r.val k u ek
 rw [hk] at h1
 cases h1
 rw [(h2.extP x).2] at hb
 obtain ⟨o, e, _⟩ := h2.at hb
 rw [hn] at e
 cases e
theorem z1z (k : ClOk X.K c C ns) (hn : PE X o (tVar i)) (he : PEv X e g) (hj : ns[j]? = some f := by rfl) (hs : swapsWith e (some (.Attribute o f apos)) pos.line X.env = pure false := by rfl) :
  PSt X (.Assign [.Attribute o f apos] e pos) (asgF c i j g) := z3s (zkl hn he hs) fun D σ H ⟨F₀, H₀, O, F, ε, o, r, e, kk⟩ => by
 simp only [asgF, y01, y07] at e
 obtain ⟨t, et, ε', es, rfl⟩ := e
 refine ⟨F₀, H₀, O, F, ε, t, r, et, fun v F1 H1 x1 q1 => ?_⟩
 have r1 := r.ext x1
 have es' := es
 unfold setF at es'
 simp only [y01] at es'
 obtain ⟨⟨m, fs⟩, ho, _⟩ := es'
 obtain ⟨a, vs, dx, h1, hx, hl, ha, _⟩ := z8g k r1 ho
 obtain ⟨kp, r2⟩ := r1.setFld (s := .imm t) (v := v) k ho h1 ha es q1 (fun b hb => by simp [fp0] at hb) hx hj
 refine ⟨_, h1, a, C, dx, _, rfl, hx, k.cls, z8i k hj, ?_, kk σ F1 _ (x1.kp.trans kp) r2⟩
 have := k.few
 simp only [List.length_zip]
 omega
theorem z96 (k : ClOk X.K c C ns) (hn : PE X o (tVar i)) (he : PEn X e g) (hj : ns[j]? = some f := by rfl) (hs : swapsWith e (some (.Attribute o f apos)) pos.line X.env = pure false := by rfl) :
  PSt X (.Assign [.Attribute o f apos] e pos) (z9o c i j g) := z3s (zkl hn he hs) fun D σ H ⟨F₀, H₀, O, F, ε, o, r, e, kk⟩ => by
 simp only [z9o, y01] at e
 obtain ⟨t, et, e⟩ := e
 split at e
 next ts =>
  simp only [y07] at e
  obtain ⟨ε', es, rfl⟩ := e
  refine ⟨F₀, H₀, O, F, ε, ts, r, et, fun b us F1 H1 x1 hnew nf hb q1 => ?_⟩
  have r1 := r.ext x1
  have es' := es
  unfold setF at es'
  simp only [y01] at es'
  obtain ⟨⟨m, fs⟩, ho, _⟩ := es'
  obtain ⟨a, vs, dx, h1, hx, hl, ha, _⟩ := z8g k r1 ho
  have hold := zi0 r x1 hnew
  obtain ⟨kp, r2⟩ := r1.setFld (s := .own ts) (v := .ref b) k ho h1 ha es ⟨b, us, rfl, hb, q1⟩ (fun d hd => by
   have : d = b := by simpa [fp0, rf] using hd
   subst this
   exact ⟨nf, r.fr _ hnew, hold i _ _ (z32 ho) h1, fun k u w _ ek _ hk => hold k u w ek hk⟩) hx hj
  refine ⟨_, h1, a, C, dx, _, rfl, hx, k.cls, z8i k hj, ?_, kk σ F1 _ (x1.kp.trans kp) r2⟩
  have := k.few
  simp only [List.length_zip]
  omega
 next => cases e
theorem zg2 {x y : T} {z : Int} (h : zdl x y = some z) : ∃ p q, x = .int p /\ y = .int q /\ z = p + q := by
 unfold zdl at h
 split at h
 ·cases h
  exact ⟨_, _, rfl, rfl, rfl⟩
 ·cases h
theorem zo0 (k : ClOk X.K c C ns) (hn : PE X o (tVar i)) (he : PEv X e g) (hj : ns[j]? = some f := by rfl) : PSt X (.AugAssign (.Attribute o f apos) .Add e pos) (augF c i j g) :=
 z3s (zkk hn he zog) fun D σ H ⟨F₀, H₀, O, F, ε, o, r, e, kk⟩ => by
 simp only [augF, y01, y07] at e
 obtain ⟨x, ex, y, ey, z, ez, ε', es, rfl⟩ := e
 simp only [fldV, y01] at ex
 obtain ⟨⟨m, fs⟩, ho, ex⟩ := ex
 split at ex
 next t' hs =>
  cases ex
  obtain ⟨p, q, rfl, rfl, rfl⟩ := zg2 ez
  obtain ⟨a, vs, dx, v, h1, hx, hl, ha, hv, rv, _⟩ := z6r k r ho hs hj
  refine ⟨_, h1, a, C, dx, _, v, rfl, hx, k.cls, z8i k hj, hl, F₀, H₀, O, F, ε, _, r, ey, fun w F1 H1 x1 q1 => ?_⟩
  have r1 := r.ext x1
  have ev : v = .int p := by simpa [z8y, Rep] using rv
  have ew : w = .int q := by simpa [Rep] using q1
  obtain ⟨a', vs', dx', h1', hx', hl', ha', _⟩ := z8g k r1 ho
  rw [h1] at h1'
  cases h1'
  obtain ⟨kp, r2⟩ := r1.setFld (s := .imm (.int (p + q))) (v := .int (p + q)) k ho h1 ha' es (by simp [z8y, Rep]) (fun b hb => by simp [fp0] at hb) hx' hj
  refine ⟨p, q, ev, ew, dx', _, hx', ?_, kk σ F1 _ (x1.kp.trans kp) r2⟩
  have := k.few
  simp only [List.length_zip]
  omega
 next => cases ex
theorem zo2 (k : ClOk X.K c C ns) (hn : PE X o (tVar i)) {bpos cpos : Pos} (he : PEv X e g) (hj : ns[j]? = some f := by rfl) (hb : attributeBase o f X.env (eval o X.env) = eval o X.env := by rfl)
  (hs1 : y0a [e] X.env = (false, eval e X.env) :: y0a [] X.env := by rfl)
  (hbase : attributeBase (.Attribute o f apos) "append" X.env (eval (.Attribute o f apos) X.env) = eval (.Attribute o f apos) X.env := by rfl)
  (hfew : ((backTo cpos (y0a [e] X.env)).all (fun x => !x.1) && (backToKw cpos (keywordEach [] X.env)).all (fun x => x.1.isSome)
   && decide (([e] : List Expr).length + ([] : List Keyword).length + (if ([] : List Keyword).isEmpty then 0 else 1) < 30)) = true := by rfl)
  (hline : (bpos.endLine == cpos.line) = true := by rfl) (hplain : (backTo cpos (y0a [] X.env)).any (·.1) = false := by rfl)
  (hsw : swapsWith (.Call (.Attribute (.Attribute o f apos) "append" bpos) [e] [] cpos) none pos.line X.env = pure false := by rfl) :
  PSt X (.Expr (.Call (.Attribute (.Attribute o f apos) "append" bpos) [e] [] cpos) pos) (appF c i j g) :=
 z3s (zdh (zpi PySem.F.plainAttrs_list PySem.F.slot_list_append PySem.F.type_list_append zax (z8e hn hb) (z49 he z6l hs1) hbase hfew hline hs1 hplain) hsw) fun D σ H ⟨F₀, H₀, O, F, ε, o, r, e, kk⟩ => by
 simp only [appF, y01] at e
 obtain ⟨t, et, ts, el, e⟩ := e
 split at e
 next hz =>
  simp only [y07] at e
  obtain ⟨ε', es, rfl⟩ := e
  obtain ⟨m, fs, ho, hs⟩ := zfb el
  obtain ⟨a, vs, dx, v, h1, hx, hl, ha, hv, ⟨b, us, eb, hb, rb⟩, _⟩ := z6r k r ho hs hj
  subst eb
  refine ⟨_, h1, a, C, dx, _, _, rfl, hx, k.cls, z8i k hj, hl, .inl ⟨rfl, _, SqL.of hb⟩, F₀, H₀, O, F, ε, t, r, et, fun v F1 H1 x1 q1 => ?_⟩
  have r1 := r.ext x1
  obtain ⟨a1, vs1, dx1, v1, h11, hx1, hl1, ha1, hv1, ⟨b1, us1, eb1, hb1, rb1⟩, _⟩ := z6r k r1 ho hs hj
  rw [h1] at h11
  cases h11
  have ev : vs1 = vs := by rw [<- ha1.vals, <- (ha.keep ((x1.same.get hx).trans hx.symm)).vals]
  subst ev
  rw [hv] at hv1
  cases hv1
  cases eb1
  obtain ⟨kp, r2⟩ := r1.mutFld (s' := .own (ts ++ [t])) (o' := .lst (us1 ++ [v])) ho h1 ha1 es hs hv (by simp [fp0, rf]) rfl fun kp => ⟨b, _, rfl, z0d, (rb1.kp kp).append (RepL.cons (q1.kp kp) RepL.nil)⟩
  exact ⟨b, us1, v, rfl, rfl, hb1, by rw [z86, <- rb1.length]; exact hz, kk σ F1 _ (x1.kp.trans kp) r2⟩
 next => cases e
theorem zqq (k : ClOk X.K c C ns) (hu : X.A.units + 1 < cLine) (hn : PE X o (tVar i)) {spos : Pos} (ha : PEr X a h) (he : PEv X e g) (hj : ns[j]? = some f := by rfl) (hb : attributeBase o f X.env (eval o X.env) = eval o X.env := by rfl)
  (hs : swapsWith e (some (.Subscript (.Attribute o f apos) a spos)) pos.line X.env = pure false := by rfl) :
  PSt X (.Assign [.Subscript (.Attribute o f apos) a spos] e pos) (zei c i j h g) := z3s (zp7 hu (z8e hn hb) ha he hs) fun D σ H ⟨F₀, H₀, O, F, ε, o, r, e, kk⟩ => by
 simp only [zei, y01] at e
 obtain ⟨v, ev, t, et, key, ek, kvs, ed, e⟩ := e
 split at e
 next hz =>
  simp only [y07] at e
  obtain ⟨ε', es, rfl⟩ := e
  obtain ⟨m, fs, ho, hs⟩ := z8n ed
  refine ⟨F₀, H₀, O, F, ε, v, r, ev, fun vv F1 H1 x1 q1 => ?_⟩
  have r1 := r.ext x1
  obtain ⟨a, vs, dx, w, h1, hx, hl, ha, hv, ⟨b, us, eb, hb, rb⟩, _⟩ := z6r k r1 ho hs hj
  subst eb
  refine ⟨_, h1, a, C, dx, _, _, rfl, hx, k.cls, z8i k hj, hl, F₀, H₀, O, F1, ε, t, r1, et, fun vt F2 H2 x2 q2 => ?_⟩
  have r2 := r1.ext x2
  have ha2 : z5c H2 a c vs := ha.keep ((x2.same.get hx).trans hx.symm)
  have rb2 := RepD.kp (x2.kp (K := X.K)) rb
  obtain ⟨kp, r3⟩ := r2.mutFld (s' := .dic (putD kvs key v)) (o' := .dK (putK us key vv)) ho h1 ha2 es hs hv (by simp [fp0, rf]) rfl fun kp => ⟨b, _, rfl, z0d, RepD.put (RepD.kp kp rb2) ((q1.ext x2).kp kp)⟩
  refine ⟨b, _, rfl, ?_, kk σ F2 _ ((x1.trans x2).kp.trans kp) r3⟩
  rw [z7v ek q2]
  exact DPut.k (x2.same.get hb) (by rw [z86, <- rb.length]; exact hz)
 next => cases e
theorem zow (k : ClOk X.K c C ns) (hu : X.A.units + 1 < cLine) (hn : PE X o (tVar i)) {spos : Pos} (ha : PEr X a h) (he : PEv X e g) (hj : ns[j]? = some f := by rfl) (hb : attributeBase o f X.env (eval o X.env) = eval o X.env := by rfl)
  (hag : ∀ ov iv new, augStore a ov iv new = (do holding [new, ov, iv] (setItem ov iv new); release [new, ov, iv] []; pure .next) := by intros; rfl) :
  PSt X (.AugAssign (.Subscript (.Attribute o f apos) a spos) .Add e pos) (zg1 c i j h g) := z3s (zp8 hu (z8e hn hb) ha he zog hag) fun D σ H ⟨F₀, H₀, O, F, ε, o, r, e, kk⟩ => by
 simp only [zg1, y01] at e
 obtain ⟨t, et, key, ek, kvs, ed, x, eg, y, ey, z, ez, e⟩ := e
 split at e
 next hz =>
  simp only [y07] at e
  obtain ⟨ε', es, rfl⟩ := e
  obtain ⟨p, q, rfl, rfl, rfl⟩ := zg2 ez
  obtain ⟨m, fs, ho, hs⟩ := z8n ed
  obtain ⟨a, vs, dx, w, h1, hx, hl, ha, hv, ⟨b, us, eb, hb, rb⟩, _⟩ := z6r k r ho hs hj
  subst eb
  refine ⟨_, h1, a, C, dx, _, _, rfl, hx, k.cls, z8i k hj, hl, F₀, H₀, O, F, ε, t, r, et, fun vt F1 H1 x1 q1 => ?_⟩
  have r1 := r.ext x1
  have rb1 := RepD.kp (x1.kp (K := X.K)) rb
  have hb1 := x1.same.get hb
  obtain ⟨w, hw, rw'⟩ := rb1.get eg
  have ew : w = .int p := by simpa [Rep] using rw'
  subst ew
  refine ⟨b, _, rfl, by rw [z7v ek q1, <- hw]; exact DGet.k hb1, F₀, H₀, O, F1, ε, _, r1, ey, fun vv F2 H2 x2 q2 => ?_⟩
  have ev : vv = .int q := by simpa [Rep] using q2
  subst ev
  refine ⟨p, q, rfl, rfl, ?_⟩
  have r2 := r1.ext x2
  have x12 := x1.trans x2
  have ha2 : z5c H2 a c vs := ha.keep ((x12.same.get hx).trans hx.symm)
  have rb2 := RepD.kp (x12.kp (K := X.K)) rb
  obtain ⟨kp, r3⟩ := r2.mutFld (s' := .dic (putD kvs key (.int (p + q)))) (o' := .dK (putK us key (.int (p + q)))) ho h1 ha2 es hs hv (by simp [fp0, rf]) rfl fun kp => ⟨b, _, rfl, z0d, RepD.put (RepD.kp kp rb2) (by simp [Rep])⟩
  refine ⟨_, ?_, kk σ F2 _ (x12.kp.trans kp) r3⟩
  rw [z7v ek q1]
  exact DPut.k (x12.same.get hb) (by rw [z86, <- rb.length]; exact hz)
 next => cases e
end
end D
end
section
namespace D
open PySem PySem.Spec PyProof.Rows L2
variable [Tbl]
section
variable {X : Cx} {e : Expr} {es : List Expr} {as : List Ag} {f : Fe} {i : Nat}
end
def zqh (K : y00) (F : Addr -> Prop) (H : Hp) (ss : List Sl) (vs : List V) : Prop := Paired (fun s v => s.isOwn = false /\ z22 K ⟨H, 0⟩ (fun a => H a = none) F H s v) ss vs
def spR (K : y00) (n : Nat) (d : List Sl -> Option T) : Sp := fun vs H Q _ => vs.length = n /\ ∃ F ss t, Dom F H /\ zqh K F H ss vs /\ d ss = some t /\ ∀ v F' H', Ext F H F' H' -> Rep K F' H' t v -> Q v H'
section
variable {K : y00} {F F' F₀ O : Addr -> Prop} {H H' : Hp} {E E' : En}
theorem Paired.get {α β : Type} {R : α -> β -> Prop} : ∀ {xs : List α} {ys : List β} {i : Nat} {x : α}, Paired R xs ys -> xs[i]? = some x -> ∃ y, ys[i]? = some y /\ R x y
 | _, _, i, x, .nil, e => by simp at e
 | _, _, 0, x, .cons r _, e => by
  simp at e
  subst e
  exact ⟨_, rfl, r⟩
 | _, _, i + 1, x, .cons _ t, e => by
  obtain ⟨y, h1, h2⟩ := Paired.get (i := i) (x := x) t (by simpa using e)
  exact ⟨y, by simpa using h1, h2⟩
theorem z6g {ss : List Sl} {n i : Nat} {s : Sl} (h : (z4m n ss)[i]? = some (some s)) : ss[i]? = some s := by
 unfold z4m at h
 by_cases hi : i < ss.length
 ·rw [y1s (by simpa using hi), y17, y0w hi] at h
  rw [y0w hi]
  simpa using h
 ·rw [y1p (by simpa using hi), List.getElem?_replicate] at h
  split at h <;> cases h
theorem ze9 {vs : List V} {n i : Nat} {v : V} (h : vs[i]? = some v) : (vs.map some ++ y0h n none)[i]? = some (some v) := by
 have hi := (y0l.mp h).1
 rw [y1s (by simpa using hi), y17, h]
 rfl
theorem zqv {m : Md} {c : Nat} {fs : List Sl} {v : V} (r : z22 K E O F H (.obj m c fs) v) (E' : En) (O' : Addr -> Prop) (he : ∀ b ∈ fpS H (.obj m c fs) v, E'.h b ≠ none) : z22 K E' O' F H (.obj .ro c fs) v := by
 have r' := r
 obtain ⟨a, vs, rfl, ha, hf, nd, ow, la⟩ := r
 rw [z2y ha] at he
 exact ⟨a, vs, rfl, ha, hf, nd, fun b hb => ⟨(ow b hb).1, he b hb⟩, fun z => by cases z⟩
theorem zgh {ss : List Sl} {vs : List V} (dom : Dom F H) (q : zqh K F H ss vs) (n : Nat) : RelE K F ⟨H, 0⟩ (fun a => H a = none) F H (z4m n ss) (vs.map some ++ y0h (n - vs.length) none) := by
 have hl : ss.length = vs.length := Paired.length q
 refine ⟨by simp [z4m, hl], fun i s e => ?_, fun i j s u v w hij e1 e2 o1 => ?_, Ext.refl dom, fun _ h => h, fun _ h => h⟩
 ·obtain ⟨v, hv, _, rv⟩ := Paired.get q (z6g e)
  exact ⟨v, ze9 hv, rv⟩
 ·obtain ⟨_, _, z, _⟩ := Paired.get q (z6g e1)
  rw [z] at o1
  cases o1
theorem zk8 : ∀ {ts : List T} {vs : List V}, RepL K F H ts vs -> zqh K F H (ts.map .imm) vs
 | [], vs, h => by
  simp only [RepL] at h
  subst h
  exact .nil
 | t :: ts, vs, h => by
  simp only [RepL] at h
  obtain ⟨v, z, rfl, q, h⟩ := h
  exact .cons ⟨rfl, q⟩ (zk8 h)
end
section
variable {P : y0r} {w : World} {K : y00} {mg : Str -> Option Value} {base : Heap}
theorem zq6 {x qual : Str} {st : Stmt} {f : Addr} {fd : y0b} {N ps : List Str} {k : Nat} {b : Fs} (F : Fun K x qual st f fd) (S : FnScope N ps (z01 st))
  (hb : ∀ (cdv : Value) (A : Around) (outer : List Env) (s : y04) (H : Hp) (E : XK), Room k (A.deeper (envOfC qual (z01 st) s.heap.objs.size f cdv)) ->
   PBt (cxOf CX0 P w K mg base N qual (z01 st) f cdv A outer s H E).nox (z0a st) b) :
  FnOk P w K mg base CX0 (k + 1) f fd ps (spR K ps.length (runR b N.length)) := by
 refine F.ok S (fun vs H Q E h => h.1) fun cdv A outer s H vs Q E hr h => ⟨_, hb cdv A outer s H E hr, ?_⟩
 obtain ⟨hl, F, ss, t, dom, q, e, kq⟩ := h
 simp only [runR, y01] at e
 obtain ⟨o, eo, e⟩ := e
 refine ⟨F, ⟨H, 0⟩, fun a => H a = none, F, _, o, ?_, eo, ?_⟩
 ·unfold L2.start
  exact zgh dom q N.length
 ·cases o with
  | rt t' =>
   cases e
   exact fun v F' H' x q => kq v F' H' x q
  | nx ε' =>
   cases e
   exact fun σ' F' H' _ r => kq _ F' H' r.ent (by simp [Rep])
  | bk _ => cases e
  | ct _ => cases e
  | rtm _ _ => cases e
  | rto _ => cases e
structure MtRd (P : y0r) (w : World) (K : y00) (mg : Str -> Option Value) (base : Heap) (C : Addr) (m : Str) (k n : Nat) (d : List Sl -> Option T) : Prop where
 ex : ∃ fa fd ps, FnOk P w K mg base CX0 k fa fd ps (spR K n d) /\ Meth K C m fa /\ z15 K fd ps []
theorem MtRd.mono {C : Addr} {m : Str} {k n j : Nat} {d : List Sl -> Option T} (c : MtRd P w K mg base C m j n d) (h : j <= k) : MtRd P w K mg base C m k n d := by
 obtain ⟨fa, fd, ps, F, r⟩ := c.ex
 exact ⟨fa, fd, ps, F.mono h, r⟩
theorem zf0 {C : Addr} {m qual : Str} {st : Stmt} {f : Addr} {fd : y0b} {N ps : List Str} {k : Nat} {b : Fs} (F : Fun K m qual st f fd) (S : FnScope N ps (z01 st)) (bd : z15 K fd ps []) (me : Meth K C m f)
  (hb : ∀ (cdv : Value) (A : Around) (outer : List Env) (s : y04) (H : Hp) (E : XK), Room k (A.deeper (envOfC qual (z01 st) s.heap.objs.size f cdv)) ->
   PBt (cxOf CX0 P w K mg base N qual (z01 st) f cdv A outer s H E).nox (z0a st) b) : MtRd P w K mg base C m (k + 1) ps.length (runR b N.length) := ⟨f, fd, ps, zq6 F S hb, me, bd⟩
end
theorem z8x : ∀ {gs : List Fe} {ε : Ev} {us : List T}, args gs ε = some us -> us.length = gs.length
 | [], ε, us, e => by
  cases e
  rfl
 | g :: gs, ε, us, e => by
  simp only [args, y01, y07] at e
  obtain ⟨t, _, vs, ev, rfl⟩ := e
  simp [z8x ev]
section
variable {X : Cx} {k n c C i : Nat} {ns : List Str} {d : List Sl -> Option T} {x m : Str} {p pos apos : Pos} {o e : Expr} {es : List Expr} {as : List Ag} {fs : List Fe}
theorem zao (kc : ClOk X.K c C ns) (Dc : MtRd X.prog X.w X.K X.mg X.base C m k n d) (hr : Room k X.A) (hn : PE X o (tVar i)) (ha : PAv X (e :: es) fs) {pl : Sem Bool} (hm : m ∉ ns := by decide +kernel) (hl : fs.length + 1 = n := by rfl)
  (hst : y0a (e :: es) X.env = (false, eval e X.env) :: y0a es X.env := by rfl) (hpl : (backTo pos (y0a es X.env)).any (·.1) = false := by rfl)
  (ht : eval (.Call (.Attribute o m apos) (e :: es) [] pos) X.env = (do
   let ov <- eval o X.env
   standAt apos.atName
   let (f, first) <- holding [ov] (getMethod ov m pl)
   callWith pos f first (backTo pos (y0a (e :: es) X.env)) (backToKw pos (keywordEach [] X.env))) := by rfl) : PEv X (.Call (.Attribute o m apos) (e :: es) [] pos) (z9y c d i fs) := by
 obtain ⟨fa, fd, ps, F, me, b⟩ := Dc.ex
 refine z10 (zko hn kc.cls me F hr b .nil zgi ha hst hpl ht) fun σ H Q ⟨F₀, E, O, F, ε, t, r, e, k⟩ => ?_
 simp only [z9y, y01] at e
 obtain ⟨⟨md, os⟩, ho, ts, et, ed⟩ := e
 obtain ⟨a, vs, dx, h1, hx, _⟩ := z8g kc r ho
 refine ⟨_, h1, a, dx, _, rfl, hx, z2r hm, F₀, E, O, F, ε, ts, r, et, fun ws F1 H1 x1 q => ⟨?_, F1, _, t, x1.dom, ?_, ed, fun v F' H' x2 q2 => k v F' H' (x1.trans x2) q2⟩⟩
 ·rw [y26, y0x, <- q.length, z8x et, hl]
 ·rw [y26]
  have r1 := r.ext x1
  obtain ⟨v', h1', rs⟩ := r1.val i _ (z32 ho)
  rw [h1] at h1'
  cases h1'
  refine .cons ⟨rfl, zqv rs _ _ fun b hb => ?_⟩ (zk8 q)
  obtain ⟨o, e, _⟩ := rs.at hb
  show H1 b ≠ none
  rw [e]
  exact fun z => by cases z
end
end D
end
section
namespace D
open PySem PySem.Spec PyProof.Rows L2
variable [Tbl]
open Classical in
noncomputable def z4y (H : Hp) (P : List Addr) (a : Addr) : En := ⟨fun b => if b ∈ P then none else H b, a⟩
section
variable {K : y00} {F F' F₀ O : Addr -> Prop} {H H' : Hp} {E : En} {P : List Addr} {a b : Addr} {o : HO} {ε : Ev} {σ : L2.St} {c i : Nat} {m : Md} {fs fs' : List Sl}
theorem za9 (h : b ∈ P) : (z4y H P a).h b = none := if_pos h
theorem z4x (h : b ∉ P) : (z4y H P a).h b = H b := if_neg h
theorem z74 (h : (z4y H P a).h b = none) : b ∈ P \/ H b = none := by
 by_cases z : b ∈ P
 ·exact .inl z
 ·rw [z4x z] at h
  exact .inr h
theorem zj3 (h : (z4y H P a).h b = some o) : b ∉ P /\ H b = some o := by
 by_cases z : b ∈ P
 ·rw [za9 z] at h
  cases h
 ·exact ⟨z, by rw [z4x z] at h; exact h⟩
theorem zn7 (d : Dom F H) : Ext F (z4y H P a).h F H := ⟨fun _ _ q => .inl (zj3 q).2, fun _ h => h, fun _ h => .inl h, d⟩
theorem zpv {v : V} (r : z22 K E O F H (.obj m c fs) (.ref a)) : z22 K (z4y H (fpS H (.obj m c fs) (.ref a)) a) (fun b => (z4y H (fpS H (.obj m c fs) (.ref a)) a).h b = none) F H (.obj .lent c fs) (.ref a) := by
 obtain ⟨a', vs, e, ha, hf, nd, ow, la⟩ := r
 cases e
 rw [z2y ha]
 exact ⟨a, vs, rfl, ha, hf, nd, fun b hb => ⟨(ow b hb).1, za9 hb⟩, fun _ => rfl⟩
theorem RelE.back (r : RelE K F₀ E O F H ε σ) (e : ε[i]? = some (some (.obj m c fs))) (hm : m ≠ .ro) (h1 : σ[i]? = some (some (.ref a))) (hP : P = fpS H (.obj m c fs) (.ref a)) (x : Ext F (z4y H P a).h F' H')
  (rs : z22 K (z4y H P a) (fun b => (z4y H P a).h b = none) F' H' (.obj .lent c fs') (.ref a)) : Kp K F H F' H' /\ RelE K F₀ E O F' H' (ε.set i (some (.obj m c fs'))) σ := by
 obtain ⟨v, h1', r0⟩ := r.val i _ e
 rw [h1] at h1'
 cases h1'
 have hown : (Sl.obj m c fs).isOwn = true := zhr hm
 have inP : ∀ b ∈ P, (∃ o, H b = some o /\ HoM o) /\ ¬ F b /\ O b := fun b hb => by
  rw [hP] at hb
  exact ⟨r0.at hb, (r0.held hb).1, (r0.held hb).2.1 hown⟩
 have stay : ∀ b o, b ∉ P -> H b = some o -> (∀ ps, o ≠ .tbl ps) -> H' b = some o := fun b o hb e n => x.same.get (by rw [z4x hb]; exact e) n
 have kp : Kp K F H F' H' := by
  refine ⟨fun b xs q => ?_, fun b xs f q => ⟨x.sub b f, ?_⟩⟩
  ·rcases q with q | q
   ·refine .inl ?_
    have nb : b ∉ P := fun z => by
     obtain ⟨⟨o, eo, ho⟩, _⟩ := inP b z
     rcases q with q | ⟨_, q⟩ <;> (rw [eo] at q; cases q; exact ho.cases (fun _ z => by cases z) (fun _ z => by cases z) (fun _ _ _ z => by cases z))
    rcases q with q | ⟨u, q⟩
    ·exact .inl (stay b _ nb q fun _ z => by cases z)
    ·exact .inr ⟨u, stay b _ nb q fun _ z => by cases z⟩
   ·exact .inr q
  ·have nb : b ∉ P := fun z => (inP b z).2.1 f
   rcases q with q | ⟨u, q⟩
   ·exact .inl (stay b _ nb q fun _ z => by cases z)
   ·exact .inr ⟨u, stay b _ nb q fun _ z => by cases z⟩
 have newF : ∀ b, F' b -> F b \/ b ∈ P \/ H b = none := fun b f => by
  rcases x.new b f with z | z
  ·exact .inl z
  ·exact .inr (z74 z)
 have keep : ∀ (j : Nat) (u : Sl) (w : V), i ≠ j -> ε[j]? = some (some u) -> σ[j]? = some (some w) -> z22 K E O F H u w -> (∀ b ∈ fpS H u w, b ∉ P) /\ z22 K E O F' H' u w /\ fpS H' u w = fpS H u w := by
  intro j u w hij ej hj ru
  have nP : ∀ b ∈ fpS H u w, b ∉ P := fun b hb z => by
   cases ou : u.isOwn with
   | true => exact r.ne i j _ u _ w hij e ej hown ou h1 hj b (hP ▸ z) hb
   | false => exact (ru.held hb).2.2 ou (r.o0 b (inP b z).2.2)
  refine ⟨nP, ru.keep kp (fun b hb => ?_) (fun b hb f => ?_) fun _ _ o => o⟩
  ·obtain ⟨o, eo, ho⟩ := ru.at hb
   rw [eo]
   exact stay b o (nP b hb) eo fun ps z => by subst z; exact ho.cases (fun _ z => by cases z) (fun _ z => by cases z) (fun _ _ _ z => by cases z)
  ·rcases newF b f with z | z | z
   ·exact z
   ·exact absurd z (nP b hb)
   ·obtain ⟨o, eo, _⟩ := ru.at hb
    rw [z] at eo
    cases eo
 obtain ⟨a', vs, ea, ha, hf, nd, ow, _⟩ := rs
 cases ea
 have hO : ∀ b ∈ a :: fpF fs' vs, ¬ F' b /\ (b ∈ P \/ H b = none) := fun b hb => by
  obtain ⟨n, q⟩ := ow b hb
  exact ⟨n, z74 q⟩
 have hown' : (Sl.obj m c fs').isOwn = true := zhr hm
 have la0 : m = .lent -> a = E.la := by
  obtain ⟨_, _, e0, _, _, _, _, la⟩ := r0
  cases e0
  exact la
 have own2 : ∀ b, ¬ F' b /\ O b -> OwnM E O F' m b := fun b h => by
  cases m with
  | ro => exact absurd rfl hm
  | own => exact h
  | lent => exact h
 have rs' : z22 K E O F' H' (.obj m c fs') (.ref a) := ⟨a, vs, rfl, ha, hf, nd, fun b hb => own2 b ⟨(hO b hb).1, by
  rcases (hO b hb).2 with z | z
  ·exact (inP b z).2.2
  ·exact r.fr b z⟩, la0⟩
 have hfp : fpS H' (.obj m c fs') (.ref a) = a :: fpF fs' vs := z2y ha
 have apart : ∀ (j : Nat) (u : Sl) (w : V), i ≠ j -> ε[j]? = some (some u) -> σ[j]? = some (some w) -> z22 K E O F H u w -> ∀ b ∈ fpS H' (.obj m c fs') (.ref a), b ∉ fpS H u w := fun j u w hij ej hj ru b hb hb' => by
  rw [hfp] at hb
  rcases (hO b hb).2 with z | z
  ·exact (keep j u w hij ej hj ru).1 b hb' z
  ·obtain ⟨o, eo, _⟩ := ru.at hb'
   rw [z] at eo
   cases eo
 refine ⟨kp, ⟨by simp [r.len], fun j u e' => ?_, fun j k u w vu vw hjk e1 e2 o1 o2 q1 q2 => ?_, ⟨fun b o q => ?_, fun b f => x.sub b (r.ent.sub b f), fun b f => ?_, x.dom⟩, r.o0, fun b e' => ?_⟩⟩
 ·rcases z4a e' with ⟨rfl, e'', hl⟩ | ⟨ne, e''⟩
  ·cases e''
   exact ⟨_, h1, rs'⟩
  ·obtain ⟨w, h2, ru⟩ := r.val j u e''
   exact ⟨w, h2, (keep j u w ne e'' h2 ru).2.1⟩
 ·rcases z4a e1 with ⟨rfl, e', hl⟩ | ⟨ne1, e1'⟩
  ·rcases z4a e2 with ⟨rfl, _, _⟩ | ⟨ne2, e2'⟩
   ·exact absurd rfl hjk
   ·cases e'
    rw [h1] at q1
    cases q1
    obtain ⟨w', h2, ru⟩ := r.val k w e2'
    rw [q2] at h2
    cases h2
    rw [(keep k w vw ne2 e2' q2 ru).2.2]
    exact apart k w vw ne2 e2' q2 ru
  ·obtain ⟨v1, h2, r1⟩ := r.val j u e1'
   rw [q1] at h2
   cases h2
   rw [(keep j u vu ne1 e1' q1 r1).2.2]
   rcases z4a e2 with ⟨rfl, e', hl⟩ | ⟨ne2, e2'⟩
   ·cases e'
    rw [h1] at q2
    cases q2
    intro b hb hb'
    exact apart j u vu ne1 e1' q1 r1 b hb' hb
   ·obtain ⟨w', h3, r2⟩ := r.val k w e2'
    rw [q2] at h3
    cases h3
    rw [(keep k w vw ne2 e2' q2 r2).2.2]
    exact r.ne j k u w vu vw hjk e1' e2' o1 o2 q1 q2
 ·have nb : b ∉ P := fun z => by
   rw [r.o0 b (inP b z).2.2] at q
   cases q
  rcases r.ent.same b o q with z | ⟨ps, ps', e1, z⟩
  ·exact x.same b o (by rw [z4x nb]; exact z)
  ·rcases x.same b _ (by rw [z4x nb]; exact z) with z2 | ⟨_, ps2, _, z2⟩
   ·exact .inr ⟨ps, ps', e1, z2⟩
   ·exact .inr ⟨ps, ps2, e1, z2⟩
 ·rcases newF b f with z | z | z
  ·exact r.ent.new b z
  ·exact .inr (r.o0 b (inP b z).2.2)
  ·exact .inr (r.o0 b (r.fr b z))
 ·rcases z74 (x.same.none e') with z | z
  ·exact (inP b z).2.2
  ·exact r.fr b z
end
def spM (K : y00) (n c p : Nat) (d : List Sl -> Option (T × List Sl)) : Sp := fun vs H Q _ => vs.length = n /\ ∃ (F : Addr -> Prop) (ss : List Sl) (a : Addr) (P : List Addr) (fs : List Sl) (r : T × List Sl), Dom F H /\ vs[p]? = some (.ref a) /\ ss[p]? = some (.obj .lent c fs) /\
 Paired (fun s v => z22 K (z4y H P a) (fun b => (z4y H P a).h b = none) F H s v) ss vs /\ (∀ q s, q ≠ p -> ss[q]? = some s -> s.isOwn = false) /\ d ss = some r /\
 ∀ v F' H', Ext F (z4y H P a).h F' H' -> Rep K F' H' r.1 v -> z22 K (z4y H P a) (fun b => (z4y H P a).h b = none) F' H' (.obj .lent c r.2) (.ref a) -> Q v H'
section
variable {P : y0r} {w : World} {K : y00} {mg : Str -> Option Value} {base : Heap}
theorem zgw {c p : Nat} {ε : Ev} {fs : List Sl} (h : z7m c p ε = some fs) : ε[p]? = some (some (.obj .lent c fs)) := by
 unfold z7m at h
 split at h
 next c' fs' e =>
  split at h
  next hc =>
   cases h
   rw [e, hc]
  next => cases h
 next => cases h
theorem zlk {x qual : Str} {st : Stmt} {f : Addr} {fd : y0b} {N ps : List Str} {k c p : Nat} {b : Fs} (F : Fun K x qual st f fd) (S : FnScope N ps (z01 st))
  (hb : ∀ (cdv : Value) (A : Around) (outer : List Env) (s : y04) (H : Hp) (E : XK), Room k (A.deeper (envOfC qual (z01 st) s.heap.objs.size f cdv)) ->
   PBt (cxOf CX0 P w K mg base N qual (z01 st) f cdv A outer s H E).nox (z0a st) b) :
  FnOk P w K mg base CX0 (k + 1) f fd ps (spM K ps.length c p (runM c p b N.length)) := by
 refine F.ok S (fun vs H Q E h => h.1) fun cdv A outer s H vs Q E hr h => ⟨_, hb cdv A outer s H E hr, ?_⟩
 obtain ⟨hl, F, ss, a, P', fs, r, dom, hv, hs, q, ho, e, kq⟩ := h
 simp only [runM, y01] at e
 obtain ⟨o, eo, e⟩ := e
 have hlen : ss.length = vs.length := Paired.length q
 refine ⟨F, z4y H P' a, fun b => (z4y H P' a).h b = none, F, _, o, ?_, eo, ?_⟩
 ·unfold L2.start
  refine ⟨by simp [z4m, hlen], fun i s e => ?_, fun i j s u v w hij e1 e2 o1 o2 => ?_, zn7 dom, fun _ h => h, fun b hb => ?_⟩
  ·obtain ⟨v, hv, rv⟩ := Paired.get q (z6g e)
   exact ⟨v, ze9 hv, rv⟩
  ·by_cases hi : i = p
   ·subst hi
    rw [ho j u (Ne.symm hij) (z6g e2)] at o2
    cases o2
   ·rw [ho i s hi (z6g e1)] at o1
    cases o1
  ·by_cases z : b ∈ P'
   ·exact za9 z
   ·exact (z4x z).trans hb
 ·have fin : ∀ {ε' : Ev} {σ' : L2.St} {F' : Addr -> Prop} {H' : Hp} {fs' : List Sl}, RelE K F (z4y H P' a) (fun b => (z4y H P' a).h b = none) F' H' ε' σ' -> z7m c p ε' = some fs' -> z22 K (z4y H P' a) (fun b => (z4y H P' a).h b = none) F' H' (.obj .lent c fs') (.ref a) := fun r' el => by
   obtain ⟨v', _, rs⟩ := r'.val p _ (zgw el)
   have rs' := rs
   obtain ⟨a', _, rfl, _, _, _, _, la⟩ := rs
   have : a' = a := la rfl
   subst this
   exact rs'
  cases o with
  | rt t' => cases e
  | nx ε' =>
   simp only [y07] at e
   obtain ⟨fs', el, rfl⟩ := e
   exact fun σ' F' H' _ r' => kq _ F' H' r'.ent (by simp [Rep]) (fin r' el)
  | bk _ => cases e
  | ct _ => cases e
  | rtm t ε' =>
   simp only [y07] at e
   obtain ⟨fs', el, rfl⟩ := e
   exact fun v σ' F' H' r' rv => kq v F' H' r'.ent rv (fin r' el)
  | rto _ => cases e
structure MtMd (P : y0r) (w : World) (K : y00) (mg : Str -> Option Value) (base : Heap) (C : Addr) (c : Nat) (m : Str) (k n : Nat) (d : List Sl -> Option (T × List Sl)) : Prop where
 ex : ∃ fa fd ps, FnOk P w K mg base CX0 k fa fd ps (spM K n c 0 d) /\ Meth K C m fa /\ z15 K fd ps []
theorem MtMd.mono {C : Addr} {c : Nat} {m : Str} {k n j : Nat} {d : List Sl -> Option (T × List Sl)} (h : MtMd P w K mg base C c m j n d) (hj : j <= k) : MtMd P w K mg base C c m k n d := by
 obtain ⟨fa, fd, ps, F, r⟩ := h.ex
 exact ⟨fa, fd, ps, F.mono hj, r⟩
theorem z3t {C : Addr} {m qual : Str} {st : Stmt} {f : Addr} {fd : y0b} {N ps : List Str} {k c : Nat} {b : Fs} (F : Fun K m qual st f fd) (S : FnScope N ps (z01 st)) (bd : z15 K fd ps []) (me : Meth K C m f)
  (hb : ∀ (cdv : Value) (A : Around) (outer : List Env) (s : y04) (H : Hp) (E : XK), Room k (A.deeper (envOfC qual (z01 st) s.heap.objs.size f cdv)) ->
   PBt (cxOf CX0 P w K mg base N qual (z01 st) f cdv A outer s H E).nox (z0a st) b) : MtMd P w K mg base C c m (k + 1) ps.length (runM c 0 b N.length) := ⟨f, fd, ps, zlk F S hb, me, bd⟩
end
def tX (K : y00) (f : Fx) : TE := fun σ H Q => ∃ F₀ E O F ε t ε', RelE K F₀ E O F H ε σ /\ f ε = some (t, ε') /\ ∀ v F' H', Kp K F H F' H' -> RelE K F₀ E O F' H' ε' σ -> Rep K F' H' t v -> Q v H'
abbrev PEx (X : Cx) (e : Expr) (f : Fx) : Prop := PE X e (tX X.K f)
section
variable {X : Cx} {k n c C i : Nat} {ns : List Str} {d : List Sl -> Option (T × List Sl)} {x m : Str} {p pos apos : Pos} {o e : Expr} {es : List Expr} {fs gs : List Fe} {fx : Fx}
theorem zgg {K : y00} {E : En} {O F : Addr -> Prop} {H : Hp} : ∀ {ts : List T} {vs : List V}, RepL K F H ts vs -> Paired (fun s v => z22 K E O F H s v) (ts.map .imm) vs
 | [], vs, h => by
  simp only [RepL] at h
  subst h
  exact .nil
 | t :: ts, vs, h => by
  simp only [RepL] at h
  obtain ⟨v, z, rfl, q, h⟩ := h
  exact .cons q (zgg h)
theorem zld {ts : List T} {q : Nat} {s : Sl} (h : (ts.map Sl.imm)[q]? = some s) : s.isOwn = false := by
 rw [y17] at h
 cases e : ts[q]? with
 | none => rw [e] at h; cases h
 | some t => rw [e] at h; cases h; rfl
theorem zhz {σ : L2.St} {H H1 : Hp} {F₀ O F F1 : Addr -> Prop} {E : En} {ε : Ev} {md : Md} {os : List Sl} {a : Addr} {Q : VK} {ws : List V} {ts : List T} {r : T × List Sl} (rE : RelE X.K F₀ E O F H ε σ) (ho : objF c i ε = some (md, os)) (hm : md ≠ .ro) (h1 : σ[i]? = some (some (.ref a)))
  (x1 : Ext F H F1 H1) (q : RepL X.K F1 H1 ts ws) (ed : d (.obj .lent c os :: ts.map .imm) = some r) (hl : ts.length + 1 = n)
  (kk : ∀ v F' H', Kp X.K F H F' H' -> RelE X.K F₀ E O F' H' (ε.set i (some (.obj md c r.2))) σ -> Rep X.K F' H' r.1 v -> Q v H') : spM X.K n c 0 d (.ref a :: ws) H1 Q E0 := by
 have r1 := rE.ext x1
 obtain ⟨v', h1', rs⟩ := r1.val i _ (z32 ho)
 rw [h1] at h1'
 cases h1'
 refine ⟨by simp [<- q.length, hl], F1, _, a, fpS H1 (.obj md c os) (.ref a), os, r, x1.dom, rfl, rfl, .cons (zpv (v := .ref a) rs) (zgg q), fun j s hj hs => ?_, ed, fun v F' H' x2 rv rs2 => ?_⟩
 ·cases j with
  | zero => exact absurd rfl hj
  | succ j => exact zld (q := j) (by simpa using hs)
 ·obtain ⟨kp, r2⟩ := r1.back (z32 ho) hm h1 rfl x2 rs2
  exact kk v F' H' (x1.kp.trans kp) r2 rv
theorem z0r (kc : ClOk X.K c C ns) (Dc : MtMd X.prog X.w X.K X.mg X.base C c m k n d) (hr : Room k X.A) (hn : PE X o (tVar i)) (ha : PAv X (e :: es) fs) {pl : Sem Bool} (hm : m ∉ ns := by decide +kernel) (hl : fs.length + 1 = n := by rfl)
  (hst : y0a (e :: es) X.env = (false, eval e X.env) :: y0a es X.env := by rfl) (hpl : (backTo pos (y0a es X.env)).any (·.1) = false := by rfl)
  (ht : eval (.Call (.Attribute o m apos) (e :: es) [] pos) X.env = (do
   let ov <- eval o X.env
   standAt apos.atName
   let (f, first) <- holding [ov] (getMethod ov m pl)
   callWith pos f first (backTo pos (y0a (e :: es) X.env)) (backToKw pos (keywordEach [] X.env))) := by rfl) : PEx X (.Call (.Attribute o m apos) (e :: es) [] pos) (z1n c d i fs) := by
 obtain ⟨fa, fd, ps, F, me, b⟩ := Dc.ex
 refine z10 (zko hn kc.cls me F hr b .nil zgi ha hst hpl ht) fun σ H Q ⟨F₀, E, O, F, ε, t, ε', r, e, kk⟩ => ?_
 simp only [z1n, y01] at e
 obtain ⟨⟨md, os⟩, ho, e⟩ := e
 split at e
 next => cases e
 next hmd =>
  simp only [y01, y07] at e
  obtain ⟨ts, et, r', ed, e⟩ := e
  cases e
  obtain ⟨a, vs, dx, h1, hx, _⟩ := z8g kc r ho
  refine ⟨_, h1, a, dx, _, rfl, hx, z2r hm, F₀, E, O, F, ε, ts, r, et, fun ws F1 H1 x1 q => ?_⟩
  show spM X.K n c 0 d (V.ref a :: (ws ++ [])) H1 Q E0
  rw [y26]
  exact zhz r ho hmd h1 x1 q ed (by rw [z8x et, hl]) kk
theorem z5t (kc : ClOk X.K c C ns) (Dc : MtMd X.prog X.w X.K X.mg X.base C c m k n d) (hr : Room k X.A) (hn : PE X o (tVar i)) {pl : Sem Bool} (hm : m ∉ ns := by decide +kernel) (hl : 1 = n := by rfl)
  (ht : eval (.Call (.Attribute o m apos) [] [] pos) X.env = (do
   let ov <- eval o X.env
   standAt apos.atName
   let (f, first) <- holding [ov] (getMethod ov m pl)
   callWith pos f first (backTo pos (y0a [] X.env)) (backToKw pos (keywordEach [] X.env))) := by rfl) : PEx X (.Call (.Attribute o m apos) [] [] pos) (z1n c d i []) := by
 obtain ⟨fa, fd, ps, F, me, b⟩ := Dc.ex
 refine z10 (zhq hn kc.cls me F hr b .nil zgi ht) fun σ H Q ⟨F₀, E, O, F, ε, t, ε', r, e, kk⟩ => ?_
 simp only [z1n, y01] at e
 obtain ⟨⟨md, os⟩, ho, e⟩ := e
 split at e
 next => cases e
 next hmd =>
  simp only [y01, y07] at e
  obtain ⟨ts, et, r', ed, e⟩ := e
  cases e
  cases et
  obtain ⟨a, vs, dx, h1, hx, _⟩ := z8g kc r ho
  refine ⟨_, h1, a, dx, _, rfl, hx, z2r hm, ?_⟩
  exact zhz r ho hmd h1 (Ext.refl r.dom) RepL.nil ed (by simpa using hl) kk
theorem z2l (h : PEx X e fx) (hsw : swapsWith e none pos.line X.env = pure false := by rfl) : PSt X (.Expr e pos) (exX fx) := z3s (zdh h hsw) fun D σ H ⟨F₀, E, O, F, ε, o, r, e, k⟩ => by
 simp only [exX, y07] at e
 obtain ⟨⟨t, ε'⟩, et, rfl⟩ := e
 exact ⟨F₀, E, O, F, ε, t, ε', r, et, fun v F' H' kp r' _ => k σ F' H' kp r'⟩
theorem zgd : PSt X (.Return none pos) zdd := z3s zp6 fun D σ H ⟨F₀, E, O, F, ε, o, r, e, k⟩ => by
 cases e
 exact k .non σ F H r (by simp [Rep])
theorem zov {st : Stmt} : PSt X st zgk := fun pins s σ H D I ⟨F₀, E, O, F, ε, o, r, e, k⟩ => by cases e
end
end D
end
section
namespace D
open PySem PySem.Spec PyProof.Rows L2
variable [Tbl]
def tO (K : y00) (f : Fo) : TE := fun σ H Q => ∃ F₀ E O F ε s, RelE K F₀ E O F H ε σ /\ f ε = some s /\ ∀ a F' H', Ext F H F' H' -> z22 K E O F' H' s (.ref a) -> (∀ b ∈ fpS H' s (.ref a), H b = none) -> Q (.ref a) H'
abbrev PEo (X : Cx) (e : Expr) (f : Fo) : Prop := PE X e (tO X.K f)
def spO (K : y00) (n : Nat) (d : List T -> Option Sl) : Sp := fun vs H Q _ => vs.length = n /\ ∃ F ts s, Dom F H /\ RepL K F H ts vs /\ d ts = some s /\ ∀ a F' H', Ext F H F' H' -> z22 K ⟨H, 0⟩ (fun b => H b = none) F' H' s (.ref a) -> Q (.ref a) H'
theorem zel {s t : Sl} (h : ownS s = some t) : ∃ c os, s = .obj .own c os /\ t = .obj .own c os := by
 unfold ownS at h
 split at h
 ·cases h
  exact ⟨_, _, rfl, rfl⟩
 ·cases h
section
variable {P : y0r} {w : World} {K : y00} {mg : Str -> Option Value} {base : Heap}
theorem zq7 {x qual : Str} {st : Stmt} {f : Addr} {fd : y0b} {N ps : List Str} {k : Nat} {b : Fs} (F : Fun K x qual st f fd) (S : FnScope N ps (z01 st))
  (hb : ∀ (cdv : Value) (A : Around) (outer : List Env) (s : y04) (H : Hp) (E : XK), Room k (A.deeper (envOfC qual (z01 st) s.heap.objs.size f cdv)) ->
   PBt (cxOf CX0 P w K mg base N qual (z01 st) f cdv A outer s H E).nox (z0a st) b) :
  FnOk P w K mg base CX0 (k + 1) f fd ps (spO K ps.length (runO b N.length)) := by
 refine F.ok S (fun vs H Q E h => h.1) fun cdv A outer s H vs Q E hr h => ⟨_, hb cdv A outer s H E hr, ?_⟩
 obtain ⟨hl, F, ts, t, dom, q, e, kq⟩ := h
 simp only [runO, y01] at e
 obtain ⟨o, eo, e⟩ := e
 refine ⟨F, ⟨H, 0⟩, fun a => H a = none, F, _, o, ?_, eo, ?_⟩
 ·have := zch (N := N) dom q (N.length - ts.length)
  unfold L2.start
  rw [q.length] at this ⊢
  exact this
 ·cases o with
  | rto s =>
   obtain ⟨c, os, rfl, rfl⟩ := zel e
   exact fun a F' H' x rs => kq a F' H' x rs
  | nx ε' => cases e
  | bk _ => cases e
  | ct _ => cases e
  | rtm _ _ => cases e
  | rt _ => cases e
structure ClO (P : y0r) (w : World) (K : y00) (mg : Str -> Option Value) (base : Heap) (x : Str) (k n : Nat) (d : List T -> Option Sl) : Prop where
 ex : ∃ fa fd ps, FnOk P w K mg base CX0 k fa fd ps (spO K n d) /\ mg x = some (.ref fa) /\ y08 K (.ref fa) = true /\ z15 K fd ps []
theorem ClO.mono {x : Str} {k n j : Nat} {d : List T -> Option Sl} (c : ClO P w K mg base x j n d) (h : j <= k) : ClO P w K mg base x k n d := by
 obtain ⟨fa, fd, ps, F, r⟩ := c.ex
 exact ⟨fa, fd, ps, F.mono h, r⟩
theorem zs3 {x : Str} {st : Stmt} {f : Addr} {fd : y0b} {N ps : List Str} {k : Nat} {b : Fs} (F : Fun K x x st f fd) (S : FnScope N ps (z01 st)) (bd : z15 K fd ps []) (m : mg x = some (.ref f))
  (hb : ∀ (cdv : Value) (A : Around) (outer : List Env) (s : y04) (H : Hp) (E : XK), Room k (A.deeper (envOfC x (z01 st) s.heap.objs.size f cdv)) ->
   PBt (cxOf CX0 P w K mg base N x (z01 st) f cdv A outer s H E).nox (z0a st) b) : ClO P w K mg base x (k + 1) ps.length (runO b N.length) := ⟨f, fd, ps, zq7 F S hb, m, F.kp, bd⟩
structure ClNew (P : y0r) (w : World) (K : y00) (mg : Str -> Option Value) (base : Heap) (x : Str) (C : Addr) (c k n : Nat) (d : List Sl -> Option (T × List Sl)) : Prop where
 ex : ∃ fa fd ps, FnOk P w K mg base CX0 k fa fd ps (spM K n c 0 d) /\ Mk K C fa /\ mg x = some (.ref C) /\ z15 K fd ps []
theorem ClNew.mono {x : Str} {C : Addr} {c k n j : Nat} {d : List Sl -> Option (T × List Sl)} (h : ClNew P w K mg base x C c j n d) (hj : j <= k) : ClNew P w K mg base x C c k n d := by
 obtain ⟨fa, fd, ps, F, r⟩ := h.ex
 exact ⟨fa, fd, ps, F.mono hj, r⟩
theorem zrr {x : Str} {C : Addr} {qual : Str} {st : Stmt} {f : Addr} {fd : y0b} {N ps : List Str} {k c : Nat} {b : Fs} (F : Fun K "__init__" qual st f fd) (S : FnScope N ps (z01 st)) (bd : z15 K fd ps []) (me : Mk K C f) (m : mg x = some (.ref C))
  (hb : ∀ (cdv : Value) (A : Around) (outer : List Env) (s : y04) (H : Hp) (E : XK), Room k (A.deeper (envOfC qual (z01 st) s.heap.objs.size f cdv)) ->
   PBt (cxOf CX0 P w K mg base N qual (z01 st) f cdv A outer s H E).nox (z0a st) b) : ClNew P w K mg base x C c (k + 1) ps.length (runM c 0 b N.length) := ⟨f, fd, ps, zlk F S hb, me, m, bd⟩
end
section
variable {X : Cx} {k n c C i j : Nat} {ns : List Str} {x m f : Str} {p pos apos : Pos} {o e : Expr} {es : List Expr} {fs : List Fe} {fo : Fo}
theorem zk9 {K : y00} {E E' : En} {O O' F' : Addr -> Prop} {H' : Hp} {m : Md} {c : Nat} {os : List Sl} {a : Addr} (rs : z22 K E' O' F' H' (.obj m c os) (.ref a)) (hm : m ≠ .ro) (h : ∀ b, O' b -> O b) : z22 K E O F' H' (.obj .own c os) (.ref a) := by
 obtain ⟨a', vs, e, ha, hf, nd, ow, _⟩ := rs
 refine ⟨a', vs, e, ha, hf, nd, fun b hb => ⟨(ow b hb).1, h b ?_⟩, fun z => by cases z⟩
 have q := (ow b hb).2
 cases m with
 | ro => exact absurd rfl hm
 | own => exact q
 | lent => exact q
theorem zt4 {d : List Sl -> Option (T × List Sl)} (kc : ClOk X.K c C ns) (Dc : ClNew X.prog X.w X.K X.mg X.base x C c k n d) (hr : Room (k + 1) X.A) (ha : PAv X (e :: es) fs) (hg : Gl X x := by rfl) (hl : fs.length + 1 = n := by rfl) (hdb : (x == ("__debug__" : Str)) = false := by decide)
  (he : y0a (e :: es) X.env = (false, eval e X.env) :: y0a es X.env := by rfl) (hpl : (backTo pos (y0a es X.env)).any (·.1) = false := by rfl) : PEo X (.Call (.Name x p) (e :: es) [] pos) (newO c d fs) := by
 obtain ⟨fa, fd, ps, F, M, hm, b⟩ := Dc.ex
 refine z10 (zpf M F hr hg hm b .nil zgi ha hdb he hpl) fun σ H Q ⟨F₀, E, O, F, ε, s, r, e, kk⟩ => ?_
 simp only [newO, y01] at e
 obtain ⟨ts, et, r', ed, e⟩ := e
 refine ⟨F₀, E, O, F, ε, ts, r, et, fun ws F1 H1 x1 q => fun y dx hy hdx hne => ?_⟩
 rw [y26]
 have hy2 : upd (upd H1 dx (.own y)) y (.ins C dx []) y = some (.ins C dx []) := z0d
 have hat : ∀ H2 : Hp, H2 y = some (.ins C dx []) -> z5c H2 y c [] := fun H2 e => by
  refine ⟨y2c _, ?_⟩
  rw [kc.ck]
  exact ⟨dx, by simpa using e⟩
 have nH : ∀ b, b ≠ y -> b ≠ dx -> upd (upd H1 dx (.own y)) y (.ins C dx []) b = H1 b := fun b h1 h2 => by rw [z0j h1, z0j h2]
 have xa : Ext F1 H1 F1 (upd H1 dx (.own y)) := Ext.laid x1.dom hdx
 have hy1 : upd H1 dx (.own y) y = none := by rw [z0j (Ne.symm hne)]; exact hy
 have xb : Ext F1 H1 F1 (upd (upd H1 dx (.own y)) y (.ins C dx [])) := xa.trans (Ext.laid xa.dom hy1)
 have nF : ¬ F1 y := fun z => by
  obtain ⟨o, e⟩ := x1.dom y z
  rw [hy] at e
  cases e
 split at e
 next hr1 =>
  cases e
  refine ⟨by simp [<- q.length, z8x et, hl], F1, .obj .lent c [] :: ts.map .imm, y, [y], [], r', xb.dom, rfl, rfl, .cons ⟨y, [], rfl, hat _ hy2, rfl, by simp [fpF], fun b hb => ?_, fun _ => rfl⟩ (zgg (q.ext xb)), fun j s hj hs => ?_, ed, fun v F' H' x2 rv rs => ?_⟩
  ·have : b = y := by simpa [fpF] using hb
   subst this
   exact ⟨nF, za9 (by simp)⟩
  ·cases j with
   | zero => exact absurd rfl hj
   | succ j => exact zld (q := j) (by simpa using hs)
  ·rw [hr1] at rv
   refine ⟨by simpa [Rep] using rv, ?_⟩
   have none0 : ∀ b, (z4y (upd (upd H1 dx (.own y)) y (.ins C dx [])) [y] y).h b = none -> H b = none := fun b hb => by
    rcases z74 hb with z | z
    ·have : b = y := by simpa using z
     rw [this]
     exact x1.same.none hy
    ·exact x1.same.none (xb.same.none z)
   have xe : Ext F H F' H' := by
    refine ⟨fun b o q => ?_, fun b z => x2.sub b (x1.sub b z), fun b z => ?_, x2.dom⟩
    ·have step : ∀ u, H1 b = some u -> (z4y (upd (upd H1 dx (.own y)) y (.ins C dx [])) [y] y).h b = some u := fun u e1 => by
      have n1 : b ≠ y := fun z => by rw [z, hy] at e1; cases e1
      have n2 : b ≠ dx := fun z => by rw [z, hdx] at e1; cases e1
      rw [z4x (by simpa using n1), nH b n1 n2]
      exact e1
     rcases x1.same b o q with z | ⟨ps, ps', e1, z⟩
     ·exact x2.same b o (step _ z)
     ·rcases x2.same b _ (step _ z) with z2 | ⟨_, ps2, _, z2⟩
      ·exact .inr ⟨ps, ps', e1, z2⟩
      ·exact .inr ⟨ps, ps2, e1, z2⟩
    ·rcases x2.new b z with z | z
     ·exact x1.new b z
     ·exact .inr (none0 b z)
   refine kk y F' H' xe (zk9 rs (by decide) fun b hb => r.fr b (none0 b hb)) fun b hb => ?_
   obtain ⟨a', vs, ea, ha', hf, nd, ow, _⟩ := rs
   cases ea
   rw [z2y ha'] at hb
   exact none0 b (ow b hb).2
 next => cases e
theorem zob {d : List T -> Option Sl} (Dc : ClO X.prog X.w X.K X.mg X.base x k n d) (hd : ∀ ts s, d ts = some s -> ∃ c os, s = .obj .own c os) (hr : Room k X.A) (ha : PAv X (e :: es) fs) (hg : Gl X x := by rfl) (hl : fs.length = n := by rfl) (hdb : (x == ("__debug__" : Str)) = false := by decide)
  (he : y0a (e :: es) X.env = (false, eval e X.env) :: y0a es X.env := by rfl) (hpl : (backTo pos (y0a es X.env)).any (·.1) = false := by rfl) : PEo X (.Call (.Name x p) (e :: es) [] pos) (zjg d fs) := by
 obtain ⟨fa, fd, ps, F, hm, kp, b⟩ := Dc.ex
 refine z10 (zkq F hr hg hm kp b .nil zgi ha hdb he hpl) fun σ H Q ⟨F₀, E, O, F, ε, s, r, e, kk⟩ => ?_
 simp only [zjg, y01] at e
 obtain ⟨ts, et, ed⟩ := e
 obtain ⟨c, os, rfl⟩ := hd _ _ ed
 refine ⟨F₀, E, O, F, ε, ts, r, et, fun ws F1 H1 x1 q => ⟨?_, F1, ts, _, x1.dom, by simpa using q, ed, fun a F' H' x2 rs => ?_⟩⟩
 ·rw [y26, <- q.length, z8x et, hl]
 ·refine kk a F' H' (x1.trans x2) (zk9 rs (by decide) fun b hb => r.fr b (x1.same.none hb)) fun b hb => ?_
  obtain ⟨a', vs, ea, ha', hf, nd, ow, _⟩ := rs
  cases ea
  rw [z2y ha'] at hb
  exact x1.same.none (ow b hb).2
theorem zmm {b : Fs} {n : Nat} {ts : List T} {s : Sl} (h : runO b n ts = some s) : ∃ c os, s = .obj .own c os := by
 simp only [runO, y01] at h
 obtain ⟨o, eo, e⟩ := h
 cases o with
 | rto s' =>
  obtain ⟨c, os, _, rfl⟩ := zel e
  exact ⟨c, os, rfl⟩
 | _ => cases e
theorem zqr (j : Nat) {y : Str} {pos' : Pos} (hN : X.N.Nodup) (h : PEo X e fo) (hi : X.N[j]? = some y := by rfl) (hx : Loc X.env.scope y := by first | exact Or.inl rfl | exact Or.inr rfl)
  (hs : swapsWith e (some (.Name y pos')) pos.line X.env = pure false := by rfl) (hf : X.fn y = true \/ X.env.scope.names.lookup y = some .local := by first | exact .inl rfl | exact .inr rfl) :
  PSt X (.Assign [.Name y pos'] e pos) (asgO j fo) := z3s (zki hN hi hx h hs hf) fun D σ H ⟨F₀, E, O, F, ε, o, r, e, k⟩ => by
 simp only [asgO, y07] at e
 obtain ⟨s, es, rfl⟩ := e
 exact ⟨F₀, E, O, F, ε, s, r, es, fun a F' H' x rs hn => k _ F' H' x.kp (r.setNew j x rs hn)⟩
theorem zqp (hn : PE X e (tVar i)) : PSt X (.Return (some e) pos) (rtnO i) := z3s (zkj hn) fun D σ H ⟨F₀, E, O, F, ε, o, r, e, k⟩ => by
 unfold rtnO at e
 split at e
 next c fs he =>
  cases e
  obtain ⟨v, h1, rs⟩ := r.val i _ he
  have rs' := rs
  obtain ⟨a, vs, rfl, _⟩ := rs
  exact ⟨_, h1, k a F H r.ent rs'⟩
 next => cases e
theorem z9s {s : Sl} {os : List Sl} (h : z9c c s = some os) : s = .obj .own c os := by
 unfold z9c at h
 split at h
 next c' fs =>
  split at h
  next hc =>
   cases h
   rw [hc]
  next => cases h
 next => cases h
theorem zod {K : y00} {E : En} {O F : Addr -> Prop} {H : Hp} {os : List Sl} {a : Addr} (kc : ClOk K c C ns) (rs : z22 K E O F H (.obj .own c os) (.ref a)) : ∃ dx vs, H a = some (.ins C dx (ns.zip vs)) /\ z5c H a c vs /\ RelF K F H os vs := by
 obtain ⟨a', vs, ea, ha, hf, _⟩ := rs
 cases ea
 obtain ⟨hl, hx⟩ := id ha
 rw [kc.ck] at hx
 obtain ⟨dx, hx⟩ := hx
 rw [kc.cn] at hx
 exact ⟨dx, vs, hx, ha, hf⟩
theorem zss {d : List Sl -> Option T} (kc : ClOk X.K c C ns) (Dc : MtRd X.prog X.w X.K X.mg X.base C m k n d) (hr : Room k X.A) (ho : PEo X o fo) {pl : Sem Bool} (hm : m ∉ ns := by decide +kernel) (hl : 1 = n := by rfl)
  (ht : eval (.Call (.Attribute o m apos) [] [] pos) X.env = (do
   let ov <- eval o X.env
   standAt apos.atName
   let (f, first) <- holding [ov] (getMethod ov m pl)
   callWith pos f first (backTo pos (y0a [] X.env)) (backToKw pos (keywordEach [] X.env))) := by rfl) : PEv X (.Call (.Attribute o m apos) [] [] pos) (ofO c d fo []) := by
 obtain ⟨fa, fd, ps, F, me, b⟩ := Dc.ex
 refine z10 (zhq ho kc.cls me F hr b .nil zgi ht) fun σ H Q ⟨F₀, E, O, F, ε, t, r, e, k⟩ => ?_
 simp only [ofO, y01] at e
 obtain ⟨s, es, os, eo, ts, et, ed⟩ := e
 cases et
 have := z9s eo
 subst this
 refine ⟨F₀, E, O, F, ε, _, r, es, fun a F1 H1 x1 rs hn => ?_⟩
 obtain ⟨dx, vs, hx, ha, hf⟩ := zod kc rs
 refine ⟨a, dx, _, rfl, hx, z2r hm, ⟨by simp [hl], F1, _, t, x1.dom, .cons ⟨rfl, zqv rs _ _ fun b hb => ?_⟩ .nil, ed, fun v F' H' x2 q2 => k v F' H' (x1.trans x2) q2⟩⟩
 obtain ⟨o, e, _⟩ := rs.at hb
 show H1 b ≠ none
 rw [e]
 exact fun z => by cases z
theorem zkd (kc : ClOk X.K c C ns) (ho : PEo X o fo) (hj : ns[j]? = some f := by rfl) (hb : attributeBase o f X.env (eval o X.env) = eval o X.env := by rfl) : PEv X (.Attribute o f pos) (zdo c j fo) :=
 z10 (z8e ho hb) fun σ H Q ⟨F₀, E, O, F, ε, t, r, e, k⟩ => by
 simp only [zdo, y01] at e
 obtain ⟨s, es, os, eo, e⟩ := e
 have := z9s eo
 subst this
 split at e
 next ts hs =>
  cases e
  refine ⟨F₀, E, O, F, ε, _, r, es, fun a F1 H1 x1 rs hn => ?_⟩
  obtain ⟨dx, vs, hx, ha, hf⟩ := zod kc rs
  obtain ⟨v, hv, b, us, rfl, hb, rb⟩ := hf.get hs
  have hbn : H b = none := hn b (by rw [z2y ha]; exact y05 _ (z7n hs hv (by simp [fp0, rf])))
  refine ⟨a, C, dx, _, _, rfl, hx, kc.cls, z8i kc hj, z91 kc.nd hj hv, ?_⟩
  have y : Ext F H (fun d => F1 d \/ d = b) H1 := ⟨x1.same, fun d z => .inl (x1.sub d z), fun d z => by
   rcases z with z | rfl
   ·exact x1.new d z
   ·exact .inr hbn, ⟨fun d z => by
   rcases z with z | rfl
   ·exact x1.dom d z
   ·exact ⟨_, hb⟩, x1.dom.tgs⟩⟩
  refine k _ _ H1 y ?_
  simp only [Rep]
  exact ⟨b, us, rfl, .inr rfl, .inl hb, rb.keep (fun _ _ z => z) fun _ _ z w => ⟨.inl z, w⟩⟩
 next => cases e
theorem zsv {ct a b : Expr} {ft : Ft} {g h : Fe} (hc : PTt X ct ft) (ha : PEv X a g) (hb : PEv X b h) : PEv X (.IfExp ct a b pos) (ifE ft g h) := z10 (zmw hc ha hb) fun σ H Q ⟨F₀, E, O, F, ε, t, r, e, k⟩ => by
 simp only [ifE, y01] at e
 obtain ⟨v, ev, e⟩ := e
 refine ⟨F₀, E, O, F, ε, v, r, ev, fun F1 H1 x1 => ?_⟩
 cases v with
 | true => exact iteT ⟨F₀, E, O, F1, ε, t, r.ext x1, by simpa using e, fun v F' H' x2 q => k v F' H' (x1.trans x2) q⟩
 | false => exact iteF ⟨F₀, E, O, F1, ε, t, r.ext x1, by simpa using e, fun v F' H' x2 q => k v F' H' (x1.trans x2) q⟩
def z84 (xs : List Str) : List T := xs.map .str
theorem q_gT {xs : List Str} {a : Addr} (hm : X.mg x = some (.ref a)) (hk : ∃ (o : Obj) (its : Array Value) (n : Nat), X.K.lookup a = some o /\ o.cls = .type "tuple" /\ o.data = .seq its n /\ its.size <= y0k /\ Vals (xs.map V.str) its.toList) (hg : Gl X x := by rfl) (hd : (x == ("__debug__" : Str)) = false := by decide) : PEv X (.Name x pos) (cst (.tuple (z84 xs))) :=
 zij (v := .ref a) (zkp (v := .ref a) hg hm rfl hd) fun F H => by
  simp only [Rep]
  refine ⟨a, xs.map V.str, rfl, .inr hk, ?_⟩
  unfold z84
  clear hm hk hg hd
  induction xs with
  | nil => exact RepL.nil
  | cons y ys ih => exact RepL.cons (by simp [Rep]) ih
end
end D
end
section
namespace D
open PySem PySem.Spec PyProof.Rows L2
variable [Tbl]
open AutoSeq1 (wpAny_loadPart')
section
variable {X : Cx} {a e o : Expr} {f g : Fe} {p pos apos : Pos}
theorem zke (hm : X.mg "list" = none) (ha : PEr X a f) (hg : Gl X "list" := by rfl) (he : y0a [a] X.env = (false, eval a X.env) :: y0a [] X.env := by rfl) (hpl : (backTo pos (y0a [] X.env)).any (·.1) = false := by rfl) :
  PEn X (.Call (.Name "list" p) [a] [] pos) (op1 zcl f) := z10 (z8f z9u hg hm (by decide +kernel) (z49 ha z6l he) (he := he) (hpl := hpl)) fun σ H Q ⟨F₀, E, O, F, ε, ts, r, e, k⟩ => by
 simp only [op1, y01] at e
 obtain ⟨t, et, e⟩ := e
 refine ⟨F₀, E, O, F, ε, t, r, et, fun v F1 H1 x1 q1 => ?_⟩
 have fin : ∀ (ws : List V), RepL X.K F1 H1 ts ws -> ∀ l, H1 l = none -> Q (.ref l) (upd H1 l (.lst ws)) := fun ws hr l hl => by
  have x2 := Ext.laid (o := .lst ws) x1.dom hl
  refine k l ws F1 _ (x1.trans x2) (x1.same.none hl) (fun z => ?_) z0d (hr.ext x2)
  obtain ⟨o, e⟩ := x1.dom l z
  rw [hl] at e
  cases e
 unfold zcl at e
 split at e
 ·cases e
  obtain ⟨l0, ws, rfl, hl, hr⟩ := q1.tup
  exact ⟨l0, ws, rfl, .inr hl, fin ws hr⟩
 ·cases e
  obtain ⟨l0, ws, rfl, hl, hr⟩ := q1.lst
  exact ⟨l0, ws, rfl, .inl (.inl hl), fin ws hr⟩
 ·cases e
theorem zkb (hc : X.calm = true) (hm : X.mg "sorted" = none) (ha : PEr X a f) (hg : Gl X "sorted" := by rfl) (he : y0a [a] X.env = (false, eval a X.env) :: y0a [] X.env := by rfl) (hpl : (backTo pos (y0a [] X.env)).any (·.1) = false := by rfl) :
  PEn X (.Call (.Name "sorted" p) [a] [] pos) (op1 za7 f) := z10 (za4 (zfp hc) hg hm (by decide +kernel) (z49 ha z6l he) (he := he) (hpl := hpl)) fun σ H Q ⟨F₀, E, O, F, ε, ts, r, e, k⟩ => by
 simp only [op1, y01] at e
 obtain ⟨t, et, e⟩ := e
 refine ⟨F₀, E, O, F, ε, t, r, et, fun v F1 H1 x1 q1 => ?_⟩
 unfold za7 at e
 split at e
 next xs =>
  split at e
  next hz =>
   simp only [y07] at e
   obtain ⟨ss, hss, e⟩ := e
   cases e
   have hxs := zaj hss
   subst hxs
   obtain ⟨l0, ws, rfl, hl, hr⟩ := q1.lst
   refine ⟨l0, ss.map .inr, (z75 ss).map V.str, rfl, ?_, by simpa using hz, .inr ⟨ss, rfl, rfl⟩, fun l hl1 => ?_⟩
   ·have e1 : ws = (ss.map (Sum.inr : Str -> L2.Key)).map kV := by rw [z97 hr]; simp [kV, y19]
    rw [<- e1]
    exact .inl hl
   ·have x2 := Ext.laid (o := .lst ((z75 ss).map V.str)) x1.dom hl1
    refine k l _ F1 _ (x1.trans x2) (x1.same.none hl1) (fun z => ?_) z0d (zam _)
    obtain ⟨o, e⟩ := x1.dom l z
    rw [hl1] at e
    cases e
  next => cases e
 next => cases e
end
theorem zfd : entryFor table "list.remove.loop" = some Builtin.«list.remove.loop» := entryFor_of_tree (by kernel_rfl)
theorem z8c : plainId "list.remove.loop" = true := by decide +kernel
theorem zoy (l : Addr) (its : Array Value) (n : Nat) (x : Str) (t : Tok) (j : Nat) (hz : its.size <= y0k) (hj : j < its.size) (hit : ∃ u, its[j] = .str x u) (k : Nat) :
  ∀ i : Nat, j - i = k -> i <= j -> (∀ (m : Nat) (hm : m < its.size), i <= m -> m < j -> ∃ y u, its[m] = .str y u /\ y ≠ x) -> Meets (Builtin.«list.remove.loop» ⟨[.ref l, .str x t, rawInt i], []⟩)
   (fun _ R s => s.heap.get? l = some { cls := .type "list", data := .seq its n } /\ R (.ok (.ret .none)) { s with heap := s.heap.update l (Obj.mapSeq fun a => a.eraseIdxIfInBounds j) }) := by
 induction k with
 | zero =>
  intro i hk hij _ prog w A R s h
  obtain ⟨hp, g, d, tk, os⟩ := s
  obtain ⟨hl, h⟩ := h
  obtain rfl : i = j := by omega
  obtain ⟨u, hu⟩ := hit
  wp_walk using wpAny_loadPart' hl
  rw [show its[((i : Nat) : Int).toNat]? = some (.str x u) by simp [hj, hu]]
  refine y02 (wpAny_eqBool_str ?_)
  rw [decide_eq_true rfl]
  wp_walk using wpAny_loadPart' hl
  rw [show ((Obj.mapSeq (fun z => z.eraseIdxIfInBounds ((i : Nat) : Int).toNat) { cls := .type "list", data := .seq its n } : Obj).data.pastItsLine) = none from
   pastItsLine_seq (by
    have : (its.eraseIdxIfInBounds ((i : Nat) : Int).toNat).size <= its.size := by
     unfold Array.eraseIdxIfInBounds
     split
     ·rw [Array.size_eraseIdx]
      omega
     ·omega
    show (its.eraseIdxIfInBounds ((i : Nat) : Int).toNat).size <= _
    omega)]
  wp_walk
  exact h
 | succ k ih =>
  intro i hk hij hno prog w A R s h
  obtain ⟨hp, g, d, tk, os⟩ := s
  obtain ⟨hl, h⟩ := h
  have hlt : i < its.size := by omega
  obtain ⟨y, u, hy, ne⟩ := hno i hlt (y0p _) (by omega)
  wp_walk using wpAny_loadPart' hl
  rw [show its[((i : Nat) : Int).toNat]? = some (.str y u) by simp [hlt, hy]]
  refine y02 (wpAny_eqBool_str ?_)
  rw [decide_eq_false ne]
  wp_walk
  rw [show ((i : Int) + 1) = ((i + 1 : Nat) : Int) by push_cast; rfl]
  exact ⟨plainId_quiet z8c _, codeAny_builtin zfd (by
   rw [y22 z8c _]
   exact ih (i + 1) (by omega) (by omega) (fun m hm h1 h2 => hno m hm (by omega) h2) prog w A R _ ⟨hl, h⟩)⟩
theorem zf3 (l : Addr) (its : Array Value) (n : Nat) (x : Str) (t : Tok) (j : Nat) (hz : its.size <= y0k) (hj : j < its.size) (hit : ∃ u, its[j] = .str x u) (hno : ∀ (m : Nat) (hm : m < its.size), m < j -> ∃ y u, its[m] = .str y u /\ y ≠ x) :
  Meets (Builtin.«list.remove» ⟨[.ref l, .str x t], []⟩) (fun _ R s => s.heap.get? l = some { cls := .type "list", data := .seq its n } /\ R (.ok (.ret .none)) { s with heap := s.heap.update l (Obj.mapSeq fun a => a.eraseIdxIfInBounds j) }) := by
 intro prog w A R s h
 obtain ⟨hp, g, d, tk, os⟩ := s
 obtain ⟨hl, h⟩ := h
 wp_walk using wpAny_loadPart' hl
 exact ⟨plainId_quiet z8c _, codeAny_builtin zfd (by
  rw [y22 z8c _]
  exact zoy l its n x t j hz hj hit _ 0 rfl (y2c _) (fun m hm _ h2 => hno m hm h2) prog w A R _ ⟨hl, h⟩)⟩
def zoz : V -> List V -> Hp -> VK -> Prop := fun x vs H Q => ∃ (l : Addr) (ss : List Str) (y : Str), x = .ref l /\ vs = [.str y] /\ H l = some (.lst (ss.map V.str)) /\ y ∈ ss /\ Q .non (upd H l (.lst ((ss.erase y).map V.str)))
theorem zhj {ss : List Str} {its : List Value} (r : Vals (ss.map V.str) its) {m : Nat} {y : Str} (h : ss[m]? = some y) : ∃ u, its[m]? = some (.str y u) := by
 obtain ⟨v, hv, rv⟩ := r.get (i := m) (x := .str y) (by rw [y17, h]; rfl)
 obtain ⟨u, rfl⟩ := rv
 exact ⟨u, hv⟩
theorem zi4 {α : Type} [BEq α] [LawfulBEq α] : ∀ {ss : List α} {y : α}, y ∈ ss -> ∃ j, ss[j]? = some y /\ (∀ m z, m < j -> ss[m]? = some z -> z ≠ y) /\ ss.erase y = ss.eraseIdx j
 | [], y, h => by simp at h
 | x :: ss, y, h => by
  by_cases e : x = y
  ·subst e
   exact ⟨0, rfl, fun m z hm => by omega, by simp⟩
  ·have h' : y ∈ ss := by
    rcases y09.mp h with z | z
    ·exact absurd z.symm e
    ·exact z
   obtain ⟨j, h1, h2, h3⟩ := zi4 h'
   refine ⟨j + 1, by simpa using h1, fun m z hm hz => ?_, ?_⟩
   ·cases m with
    | zero =>
     simp at hz
     exact hz ▸ e
    | succ m => exact h2 m z (by omega) (by simpa using hz)
   ·rw [List.erase_cons_tail (by simpa using e), h3]
    rfl
theorem z8k {α β : Type} (f : α -> β) : ∀ (l : List α) (j : Nat), (l.eraseIdx j).map f = (l.map f).eraseIdx j
 | [], _ => rfl
 | _ :: _, 0 => rfl
 | a :: l, j + 1 => by simp [z8k f l j]
theorem zkz {X : Cx} : MtM X "list.remove" zoz := by
 intro pins s σ H x vs v us Q I rx rv h
 obtain ⟨l, ss, y, rfl, rfl, hH, hy, q⟩ := h
 cases rx
 obtain ⟨u, rfl, ru⟩ := rv.one
 obtain ⟨t, rfl⟩ := ru
 obtain ⟨z, its, n, r, hl, e⟩ := I.lstM hH
 obtain ⟨j, h1, h2, h3⟩ := zi4 hy
 obtain ⟨w, hw⟩ := zhj r h1
 have hj : j < its.length := (y0l.mp hw).1
 refine call_meets F.slot_list_remove ⟨_, e, rfl⟩ F.entry_list_remove (F.args_list_remove_2 _ _) (zf3 l its.toArray n y t j (by rw [y0i]; omega) (by rw [y0i]; exact hj) ⟨w, ?_⟩ fun m hm hmj => ?_) ⟨e, ?_⟩
 ·rw [y0w hj] at hw
  simpa using hw
 ·rw [y0i] at hm
  have hms : m < ss.length := by rw [y16] at hl; omega
  obtain ⟨u, hu⟩ := zhj r (y0w hms)
  rw [y0w hm] at hu
  exact ⟨_, u, by simpa using hu, h2 m _ hmj (y0w hms)⟩
 ·rw [h3] at q
  have e2 : (ss.eraseIdx j).map V.str = (ss.map V.str).eraseIdx j := z8k _ _ _
  rw [e2] at q
  refine ⟨.non, _, I.lset (t' := s.toks) (its' := its.eraseIdx j) hH e ?_ (r.eraseIdx j) (y1u (zf5 _ _) z), rfl, q⟩
  unfold Array.eraseIdxIfInBounds
  rw [dif_pos (by rw [y0i]; exact hj)]
  simp
section
variable {X : Cx} {c C i j : Nat} {ns : List Str} {f : Str} {o e : Expr} {g : Fe} {pos apos : Pos}
theorem zsk (k : ClOk X.K c C ns) (hn : PE X o (tVar i)) {bpos cpos : Pos} (he : PEv X e g) (hj : ns[j]? = some f := by rfl) (hb : attributeBase o f X.env (eval o X.env) = eval o X.env := by rfl)
  (hs1 : y0a [e] X.env = (false, eval e X.env) :: y0a [] X.env := by rfl)
  (hbase : attributeBase (.Attribute o f apos) "remove" X.env (eval (.Attribute o f apos) X.env) = eval (.Attribute o f apos) X.env := by rfl)
  (hfew : ((backTo cpos (y0a [e] X.env)).all (fun x => !x.1) && (backToKw cpos (keywordEach [] X.env)).all (fun x => x.1.isSome)
   && decide (([e] : List Expr).length + ([] : List Keyword).length + (if ([] : List Keyword).isEmpty then 0 else 1) < 30)) = true := by rfl)
  (hline : (bpos.endLine == cpos.line) = true := by rfl) (hplain : (backTo cpos (y0a [] X.env)).any (·.1) = false := by rfl)
  (hsw : swapsWith (.Call (.Attribute (.Attribute o f apos) "remove" bpos) [e] [] cpos) none pos.line X.env = pure false := by rfl) :
  PSt X (.Expr (.Call (.Attribute (.Attribute o f apos) "remove" bpos) [e] [] cpos) pos) (rmF c i j g) :=
 z3s (zdh (zpi PySem.F.plainAttrs_list PySem.F.slot_list_remove PySem.F.type_list_remove zkz (z8e hn hb) (z49 he z6l hs1) hbase hfew hline hs1 hplain) hsw) fun D σ H ⟨F₀, H₀, O, F, ε, o, r, e, kk⟩ => by
 simp only [rmF, y01] at e
 obtain ⟨t, et, ts, el, e⟩ := e
 split at e
 next x ss hss =>
  split at e
  next hx =>
   simp only [y07] at e
   obtain ⟨ε', es, rfl⟩ := e
   have hts := zaj hss
   subst hts
   obtain ⟨m, fs, ho, hs⟩ := zfb el
   obtain ⟨a, vs, dx, v, h1, hx0, hl, ha, hv, ⟨b, us, eb, hb, rb⟩, _⟩ := z6r k r ho hs hj
   subst eb
   refine ⟨_, h1, a, C, dx, _, _, rfl, hx0, k.cls, z8i k hj, hl, .inl ⟨rfl, _, SqL.of hb⟩, F₀, H₀, O, F, ε, _, r, et, fun v F1 H1 x1 q1 => ?_⟩
   have r1 := r.ext x1
   have ha1 : z5c H1 a c vs := ha.keep ((x1.same.get hx0).trans hx0.symm)
   have ev : v = .str x := by simpa [Rep] using q1
   subst ev
   have eu := z97 rb
   subst eu
   obtain ⟨kp, r2⟩ := r1.mutFld (s' := .own ((ss.erase x).map .str)) (o' := .lst ((ss.erase x).map V.str)) ho h1 ha1 es hs hv (by simp [fp0, rf]) rfl fun kp => ⟨b, _, rfl, z0d, zam _⟩
   exact ⟨b, ss, x, rfl, rfl, x1.same.get hb, hx, kk σ F1 _ (x1.kp.trans kp) r2⟩
  next => cases e
 next => cases e
end
end D
end
section
namespace D
open PySem PySem.Spec PyProof.Rows L2
variable [Tbl]
open AutoSeq1 (wpAny_loadPart')
section
variable {prog : y0r} {w : World} {A : Around} {E : Value -> y04 -> Prop} {s : y04} {T : String} {r d : Addr} {n : Nat} {P : Nat -> Value -> Prop} {OK : Heap -> Prop}
theorem zb0 (W : PySem.W.KdlSrc prog w T r d n P OK) (hn : n <= y0k) (o : Obj) (hc : o.cls = .type T) :
  MeetsIn prog w (Builtin.«tuple.__new__» ⟨[.type "tuple", .ref r], []⟩)
   (fun A R s => A.handled = none /\ OK s.heap /\ s.heap.get? r = some o /\ ∀ (h' : Heap) (tk : Nat) (acc : Array Value), (∀ b o, s.heap.get? b = some o -> h'.get? b = some o) -> s.heap.objs.size <= h'.objs.size -> ItemsOf P acc n -> R (.ok (.ret (.ref h'.objs.size))) { s with heap := h'.push { cls := .type "tuple", data := .seq acc }, toks := tk }) :=
 .of_wp fun A R s h => by
  obtain ⟨hp, g, dr, tk, os⟩ := s
  obtain ⟨hh, hok, ho, h⟩ := h
  have hsub := sub_tuple_self
  have hinit := init_tuple_lookup
  have hmh := madeHere_tuple
  have hT : Shared.TypeIs ⟨hp, g, dr, tk, os⟩ (.ref r) T := W.type _ hok
  have n1 := W.notList
  have n2 := W.notTuple
  wp_walk using wpAny_loadPart' ho, wpAny_typeOf hT, zh7 W (by simpa using hh) hok hn
  intro h' tk' acc hk hsz hacc
  show y0v _ _ (y15 acc.toList.toArray >>= fun v => ret v) _ _ _
  unfold y15
  have hz : acc.size <= y0k := by rw [hacc.1]; exact hn
  refine y02 (wpAny_newObj_type ?_ (by show acc.toList.toArray.size <= y0k; simpa using hz))
  refine y06 ⟨_, rfl, ?_⟩
  rw [show acc.toList.toArray = acc by simp]
  exact h h' tk' acc hk hsz hacc
theorem zc3 {Q : Value -> y04 -> Prop} (W : PySem.W.KdlSrc prog w T r d n P OK) (hn : n <= y0k) {o : Obj} (hc : o.cls = .type T) (hh : A.handled = none) (hok : OK s.heap) (ho : s.heap.get? r = some o)
  (h : ∀ (h' : Heap) (tk : Nat) (acc : Array Value), (∀ b o, s.heap.get? b = some o -> h'.get? b = some o) -> s.heap.objs.size <= h'.objs.size -> ItemsOf P acc n -> Q (.ref h'.objs.size) { s with heap := h'.push { cls := .type "tuple", data := .seq acc }, toks := tk }) :
  y0v (model prog w) A (call (.type "tuple") [.ref r]) Q E s :=
 callType_newIn F.called_tuple (by decide) (F.typeCall_tuple_1 _) (F.newCall_tuple_1 _) (fun obj => F.args_object_init_2 obj _) F.entry_tuple_new
  (zb0 W hn o hc) ⟨by simpa using hh, hok, ho, fun h' tk acc hk hsz hacc => ⟨⟨_, y0m _ rfl, rfl⟩, h h' tk acc hk hsz hacc⟩⟩
end
def zma (p d : Addr) : HO := .ext fun h => h.IsValuesView p d
section
variable {X : Cx}
theorem zky : MtM X "dict.values" (fun x vs H Q => ∃ d kvs, x = .ref d /\ vs = [] /\ H d = some (.dK kvs) /\ ∀ p, H p = none -> Q (.ref p) (upd H p (zma p d))) := by
 intro pins s σ H x vs v us Q I rx rv h
 obtain ⟨d, kvs, rfl, rfl, hH, q⟩ := h
 cases rx
 cases rv
 obtain ⟨hz, hsm, ws, hkv, hd⟩ := I.hok d _ hH
 refine call_meetsIn PySem.F.slot_dict_values hd.typeIs PySem.F.entry_dict_values (PySem.F.args_dict_values_1 _) (meets_dict_values (z1m X.prog X.w) d hsm) ⟨⟨ws, hd⟩, ?_⟩
 have hv : (s.heap.push { cls := .type "dict_values", data := .fields #[.ref d] }).IsValuesView s.heap.objs.size d := ⟨_, y0m _ rfl, rfl, rfl⟩
 refine ⟨.ref s.heap.objs.size, upd H s.heap.objs.size (zma s.heap.objs.size d), I.laid (t' := s.toks) (fun b u e => y03 _ e) (y0p _) ⟨hv, ⟨_, y0m _ rfl⟩, fun h1 h2 p k => ?_⟩, rfl, q _ I.fresh⟩
 obtain ⟨o, ho, r⟩ := p
 exact ⟨o, k o ho, r⟩
theorem zoe : ∀ {kvs : List (L2.Key × V)} {vs : List (L2.Key × Value)}, KV kvs vs -> Vals (kvs.map (·.2)) (vs.map (·.2))
 | _, _, .nil => .nil
 | _, _, .cons a b => .cons a.2 (zoe b)
theorem zbj (hc : X.calm = true) : z90 X (.type "tuple") (fun xs H Q => ∃ p d kvs, xs = [.ref p] /\ H p = some (zma p d) /\ H d = some (.dK kvs) /\ ∀ t, H t = none -> Q (.ref t) (upd H t (.tup (kvs.map (·.2))))) := by
 intro pins s σ H xs us Q I r h
 obtain ⟨p, d, kvs, rfl, hp, hq, q⟩ := h
 obtain ⟨u, rfl, rx⟩ := zg7 r
 cases rx
 obtain ⟨hz', hsm, vs, hkv, hd⟩ := I.hok d _ hq
 obtain ⟨ep, hat⟩ := hd.dictAt
 have hl : vs.length = kvs.length := (Paired.length hkv).symm
 have hv : s.heap.IsValuesView p d := (I.hok p _ hp).1
 obtain ⟨o, ho, hcl, hdat⟩ := id hv
 refine zc3 (PySem.W.kdl_values (knd := z1m X.prog X.w) (kvs := vs) (ep := ep)) (by rw [hl]; exact hz') hcl (I.ok.hd hc) ⟨hv, hat⟩ ho fun h' tk acc hk hsz hacc => ?_
 have hz2 : (kvs.map (·.2)).length <= y0k := by rw [y16]; exact hz'
 have ea : acc.toList = vs.map (·.2) := by
  refine List.ext_getElem? fun i => ?_
  rw [y17]
  by_cases hi : i < acc.size
  ·obtain ⟨k, hk⟩ := hacc.2 i acc[i] (by simp [hi])
   rw [hk]
   simp [hi]
  ·rw [List.getElem?_eq_none (by simpa using hi), List.getElem?_eq_none (by rw [hacc.1] at hi; omega)]
   rfl
 have hT : (h'.push { cls := .type "tuple", data := .seq acc }).get? h'.objs.size = some { cls := .type "tuple", data := .seq acc } := y0m _ rfl
 refine ⟨.ref h'.objs.size, _, z8l I (o := .tup (kvs.map (·.2))) (d' := s.drawn) (fun b u e => y03 _ (hk b u e)) hsz ⟨hz2, vs.map (·.2), zoe hkv, ⟨_, hT, rfl, 0, by rw [<- ea]⟩⟩, rfl, q _ (I.hok.fresh hsz)⟩
variable {c C i j : Nat} {ns : List Str} {f : Str} {o : Expr} {p pos apos bpos cpos : Pos}
theorem RepD.snd {K : y00} {F : Addr -> Prop} {H : Hp} : ∀ {ts : List (D.Key × T)} {vs : List (D.Key × V)}, RepD K F H ts vs -> RepL K F H (ts.map (·.2)) (vs.map (·.2))
 | [], vs, h => by
  have e : vs = [] := h
  subst e
  exact RepL.nil
 | t :: ts, vs, h => by
  obtain ⟨v, r, rfl, q, z⟩ := h
  exact RepL.cons q (RepD.snd z)
theorem zkf (k : ClOk X.K c C ns) (hc : X.calm = true) (ht : X.mg "tuple" = none) (hn : PE X o (tVar i)) (hj : ns[j]? = some f := by rfl) (hb : attributeBase o f X.env (eval o X.env) = eval o X.env := by rfl)
  (hbase : attributeBase (.Attribute o f apos) "values" X.env (eval (.Attribute o f apos) X.env) = eval (.Attribute o f apos) X.env := by rfl) (hline : (bpos.endLine == cpos.line) = true := by rfl) (hg : Gl X "tuple" := by rfl)
  (he : y0a [.Call (.Attribute (.Attribute o f apos) "values" bpos) [] [] cpos] X.env = (false, eval (.Call (.Attribute (.Attribute o f apos) "values" bpos) [] [] cpos) X.env) :: y0a [] X.env := by rfl)
  (hpl : (backTo pos (y0a [] X.env)).any (·.1) = false := by rfl) :
  PEv X (.Call (.Name "tuple" p) [.Call (.Attribute (.Attribute o f apos) "values" bpos) [] [] cpos] [] pos) (zlm c i j) :=
 z10 (z8f (zbj hc) hg ht (by decide +kernel) (z49 (zri PySem.F.plainAttrs_dict PySem.F.slot_dict_values PySem.F.type_dict_values zky (z8e hn hb) hbase hline) z6l he) (he := he) (hpl := hpl)) fun σ H Q ⟨F₀, E, O, F, ε, t, r, e, kk⟩ => by
 simp only [zlm, y07] at e
 obtain ⟨kvs, ed, rfl⟩ := e
 obtain ⟨m, fs, ho, hs⟩ := z8n ed
 obtain ⟨a, vs, dx, v, h1, hx, hl, ha, hv, ⟨b, us, eb, hb, rb⟩, _⟩ := z6r k r ho hs hj
 subst eb
 refine ⟨_, h1, a, C, dx, _, _, rfl, hx, k.cls, z8i k hj, hl, .inr (.inr (.inl ⟨rfl, .inl ⟨_, hb⟩⟩)), b, us, rfl, rfl, hb, fun p hp => ?_⟩
 have x1 := Ext.laid (o := zma p b) r.dom hp
 refine ⟨p, b, us, rfl, z0d, x1.same.get hb, fun t ht => ?_⟩
 have x2 := x1.trans (Ext.laid (o := .tup (us.map (·.2))) x1.dom ht)
 refine kk _ F _ x2 ?_
 simp only [Rep]
 exact ⟨t, _, rfl, SqT.of z0d, (rb.snd).ext x2⟩
end
end D
end
section
namespace D
open PySem PySem.Spec PyProof.Rows L2
variable [Tbl]
open AutoSeq1 (wpAny_loadPart')
def ZipR (h : Heap) (z TI TO : Addr) (f0 f1 : Value) : Prop := h.get? z = some { cls := .type "zip", dict := none, data := .fields #[f0, f1, .bool false, .ref TI, .ref TO], slots := #[] }
section
variable {prog : y0r} {w : World} {A : Around} {E : Value -> y04 -> Prop} {s : y04} {z TI TO i1 i2 l1 l2 : Addr} {k n1 n2 : Nat} {P1 P2 : Nat -> Value -> Prop} {S1 S2 : Nat -> Heap -> Prop} {a b f1 : Value}
theorem zm8 {Q : Value -> y04 -> Prop} (D : ZipApart z TI TO i1 i2 l1 l2) (D1 : Draws prog w A i1 [i1, l1] n1 P1 S1) (D2 : Draws prog w A i2 [i2, l2] n2 P2 S2) (hz : ZipR s.heap z TI TO .none f1) (hTI : IsPair s.heap TI (.ref i1) (.ref i2)) (hTO : IsPair s.heap TO a b)
  (s1 : S1 k s.heap) (s2 : S2 k s.heap) (h1 : k < n1) (h2 : k < n2)
  (hQ : ∀ h' x y tk, P1 k x -> P2 k y -> ZipR h' z TI TO (rawInt s.heap.objs.size) (.bool false) -> IsPair h' TO x y -> S1 (k + 1) h' -> S2 (k + 1) h' -> IsPair h' s.heap.objs.size x y -> h'.objs.size = s.heap.objs.size + 1 ->
   (∀ c o, c ≠ z -> c ≠ TO -> c ≠ i1 -> c ≠ i2 -> s.heap.get? c = some o -> h'.get? c = some o) -> Q (.ref s.heap.objs.size) { s with heap := h', toks := tk }) :
  y0v (model prog w) A (Builtin.«zip.__next__» ⟨[.ref z], []⟩) (fun fin s' => ∃ v, fin = .done (.ret v) /\ Q v s') E s := by
 unfold ZipR at hz
 refine y02 (m := field (.ref z) 2) (wpAny_field hz rfl (x := .bool false) rfl (y02 (m := field (.ref z) 3) (wpAny_field hz rfl (x := .ref TI) rfl (y02 (wpAny_seqItems hTI rfl ?_)))))
 refine y02 (m := y12 (.ref z)) ?_
 unfold y12
 refine y02 (wpAny_field hz rfl (x := .none) rfl (y06 ?_))
 simp only [if_true]
 refine y02 (wpAny_rule (y02 (wpAny_field hz rfl (x := .ref TO) rfl (y02 (wpAny_setField_rec hz (by simp) fun h₁ hz₁ e₁ => ?_)))))
 replace hz₁ : ZipR h₁ z TI TO .ellipsis f1 := hz₁
 refine y02 ?_
 simp only [List.zipIdx_cons, List.zipIdx_nil, List.forIn_cons, List.forIn_nil]
 have st1 : S1 k h₁ := D1.frame k _ _ s1 fun c hc o e => by
  rcases y09.mp hc with rfl | hc
  ·exact e₁.extBut _ _ D.i1z e
  ·rw [y11.mp hc] at e ⊢
   exact e₁.extBut _ _ D.l1z e
 refine y02 (y02 (wpAny_onRaise (y02 (m := y0u (.ref i1)) (D1.item k _ _ _ h1 st1 fun x h₂ tk px t1 e₂ => y06 ?_))))
 have hTO₂ : IsPair h₂ TO a b := e₂.extBut _ _ D.TOi1 (e₁.extBut _ _ D.TOz hTO)
 refine y02 (wpAny_seqItems hTO₂ rfl (y02 (wpAny_updateSeq_pair hTO₂ fun h₃ hTO₃ e₃ => ?_)))
 replace hTO₃ : IsPair h₃ TO x b := hTO₃
 refine y02 (wpAny_letGo (y06 ?_))
 have st2 : S2 k h₃ := D2.frame k _ _ s2 fun c hc o e => by
  rcases y09.mp hc with rfl | hc
  ·exact e₃.extBut _ _ D.TOi2.symm (e₂.extBut _ _ D.i12.symm (e₁.extBut _ _ D.i2z e))
  ·rw [y11.mp hc] at e ⊢
   exact e₃.extBut _ _ D.l2TO (e₂.extBut _ _ D.l2i1 (e₁.extBut _ _ D.l2z e))
 refine y02 (y02 (wpAny_onRaise (y02 (m := y0u (.ref i2)) (D2.item k _ _ _ h2 st2 fun y h₄ tk2 py t2 e₄ => y06 ?_))))
 have hTO₄ : IsPair h₄ TO x b := e₄.extBut _ _ D.TOi2 hTO₃
 refine y02 (wpAny_seqItems hTO₄ rfl (y02 (wpAny_updateSeq_pair hTO₄ fun h₅ hTO₅ e₅ => ?_)))
 replace hTO₅ : IsPair h₅ TO x y := hTO₅
 refine y02 (wpAny_letGo (y06 (y06 (y02 (wpAny_seqItems hTO₅ rfl (y02 (wpAny_newTuple ?_)))))))
 have sz5 : h₅.objs.size = s.heap.objs.size := by rw [e₅.1, e₄.1, e₃.1, e₂.1, e₁.1]
 have hz₅ : ZipR h₅ z TI TO .ellipsis f1 := e₅.extBut _ _ D.TOz.symm (e₄.extBut _ _ D.i2z.symm (e₃.extBut _ _ D.TOz.symm (e₂.extBut _ _ D.i1z.symm hz₁)))
 have kp5 : ∀ c o, c ≠ z -> c ≠ TO -> c ≠ i1 -> c ≠ i2 -> s.heap.get? c = some o -> h₅.get? c = some o := fun c o c1 c2 c3 c4 e => e₅.extBut _ _ c2 (e₄.extBut _ _ c4 (e₃.extBut _ _ c2 (e₂.extBut _ _ c3 (e₁.extBut _ _ c1 e))))
 have u1 : S1 (k + 1) h₅ := D1.frame _ _ _ t1 fun c hc o e => by
  rcases y09.mp hc with rfl | hc
  ·exact e₅.extBut _ _ D.TOi1.symm (e₄.extBut _ _ D.i12 (e₃.extBut _ _ D.TOi1.symm e))
  ·rw [y11.mp hc] at e ⊢
   exact e₅.extBut _ _ D.l1TO (e₄.extBut _ _ D.l1i2 (e₃.extBut _ _ D.l1TO e))
 have u2 : S2 (k + 1) h₅ := D2.frame _ _ _ t2 fun c hc o e => by
  rcases y09.mp hc with rfl | hc
  ·exact e₅.extBut _ _ D.TOi2.symm e
  ·rw [y11.mp hc] at e ⊢
   exact e₅.extBut _ _ D.l2TO e
 have zlt : z < h₅.objs.size := y0c hz₅
 refine y02 (m := Builtin.SmallTypes.ownedTupleHandOut (.ref z) (.ref h₅.objs.size)) ?_
 unfold Builtin.SmallTypes.ownedTupleHandOut
 have hz₆ : ZipR (h₅.push { cls := .type "tuple", data := .seq #[x, y] }) z TI TO .ellipsis f1 := y03 _ hz₅
 refine y02 (wpAny_setField_rec hz₆ (by simp) fun h₇ hz₇ e₇ => ?_)
 replace hz₇ : ZipR h₇ z TI TO (rawInt h₅.objs.size) f1 := hz₇
 refine wpAny_setField_rec hz₇ (by simp) fun h₈ hz₈ e₈ => ?_
 replace hz₈ : ZipR h₈ z TI TO (rawInt h₅.objs.size) (.bool false) := hz₈
 have up : ∀ c o, c ≠ z -> h₅.get? c = some o -> h₈.get? c = some o := fun c o c1 e => e₈.extBut _ _ c1 (e₇.extBut _ _ c1 (y03 _ e))
 have hT : IsPair h₈ h₅.objs.size x y := e₈.extBut _ _ (y18 zlt) (e₇.extBut _ _ (y18 zlt) (y0m _ rfl))
 have sz8 : h₈.objs.size = h₅.objs.size + 1 := by rw [e₈.1, e₇.1, y1a]
 rw [sz5] at hz₈ hT sz8
 refine y06 ⟨_, rfl, ?_⟩
 show Q (.ref h₅.objs.size) _
 rw [sz5]
 refine hQ h₈ x y _ px py hz₈ (up _ _ D.TOz hTO₅) (D1.frame _ _ _ u1 fun c hc o e => ?_) (D2.frame _ _ _ u2 fun c hc o e => ?_) hT sz8 fun c o c1 c2 c3 c4 e => up c o c1 (kp5 c o c1 c2 c3 c4 e)
 ·refine up c o ?_ e
  rcases y09.mp hc with rfl | hc
  ·exact D.i1z
  ·rw [y11.mp hc]
   exact D.l1z
 ·refine up c o ?_ e
  rcases y09.mp hc with rfl | hc
  ·exact D.i2z
  ·rw [y11.mp hc]
   exact D.l2z
theorem zm6 {Q : Fin -> y04 -> Prop} (D : ZipApart z TI TO i1 i2 l1 l2) (D1 : Draws prog w A i1 [i1, l1] n1 P1 S1) (D2 : Draws prog w A i2 [i2, l2] n2 P2 S2) (hz : ZipR s.heap z TI TO .none f1) (hTI : IsPair s.heap TI (.ref i1) (.ref i2)) (hTO : IsPair s.heap TO a b)
  (s1 : S1 k s.heap) (s2 : S2 k s.heap) (hk : k = n1 \/ (k < n1 /\ k = n2))
  (hE : ∀ h' e tk, (∀ c o, c ≠ z -> c ≠ TO -> c ≠ i1 -> c ≠ i2 -> s.heap.get? c = some o -> h'.get? c = some o) -> (∃ o, h'.get? e = some o /\ o.cls = .type "StopIteration") -> E (.ref e) { s with heap := h', toks := tk }) :
  y0v (model prog w) A (Builtin.«zip.__next__» ⟨[.ref z], []⟩) Q E s := by
 unfold ZipR at hz
 refine y02 (m := field (.ref z) 2) (wpAny_field hz rfl (x := .bool false) rfl (y02 (m := field (.ref z) 3) (wpAny_field hz rfl (x := .ref TI) rfl (y02 (wpAny_seqItems hTI rfl ?_)))))
 refine y02 (m := y12 (.ref z)) ?_
 unfold y12
 refine y02 (wpAny_field hz rfl (x := .none) rfl (y06 ?_))
 simp only [if_true]
 refine y02 (wpAny_rule (y02 (wpAny_field hz rfl (x := .ref TO) rfl (y02 (wpAny_setField_rec hz (by simp) fun h₁ hz₁ e₁ => ?_)))))
 replace hz₁ : ZipR h₁ z TI TO .ellipsis f1 := hz₁
 refine y02 ?_
 simp only [List.zipIdx_cons, List.zipIdx_nil, List.forIn_cons, List.forIn_nil]
 have st1 : S1 k h₁ := D1.frame k _ _ s1 fun c hc o e => by
  rcases y09.mp hc with rfl | hc
  ·exact e₁.extBut _ _ D.i1z e
  ·rw [y11.mp hc] at e ⊢
   exact e₁.extBut _ _ D.l1z e
 rcases hk with rfl | ⟨h1, rfl⟩
 ·refine y02 (y02 (wpAny_onRaise (y02 (m := y0u (.ref i1)) (D1.done _ _ _ st1 fun h₂ e e₂ he => ?_))))
  obtain ⟨oe, hoe, hce⟩ := he
  have hz₂ : ZipR h₂ z TI TO .ellipsis f1 := e₂ _ _ D.i1z.symm hz₁
  have ne : e ≠ z := fun q => by
   subst q
   unfold ZipR at hz₂
   rw [hz₂] at hoe
   cases hoe
   simp at hce
  exact wpAny_setField_rec hz₂ (by simp) fun h₃ _ e₃ => hE h₃ e _ (fun c o c1 _ c3 _ q => e₃.extBut _ _ c1 (e₂ _ _ c3 (e₁.extBut _ _ c1 q))) ⟨oe, e₃.extBut _ _ ne hoe, hce⟩
 ·refine y02 (y02 (wpAny_onRaise (y02 (m := y0u (.ref i1)) (D1.item k _ _ _ h1 st1 fun x h₂ tk px t1 e₂ => y06 ?_))))
  have hTO₂ : IsPair h₂ TO a b := e₂.extBut _ _ D.TOi1 (e₁.extBut _ _ D.TOz hTO)
  refine y02 (wpAny_seqItems hTO₂ rfl (y02 (wpAny_updateSeq_pair hTO₂ fun h₃ hTO₃ e₃ => ?_)))
  refine y02 (wpAny_letGo (y06 ?_))
  have st2 : S2 k h₃ := D2.frame k _ _ s2 fun c hc o e => by
   rcases y09.mp hc with rfl | hc
   ·exact e₃.extBut _ _ D.TOi2.symm (e₂.extBut _ _ D.i12.symm (e₁.extBut _ _ D.i2z e))
   ·rw [y11.mp hc] at e ⊢
    exact e₃.extBut _ _ D.l2TO (e₂.extBut _ _ D.l2i1 (e₁.extBut _ _ D.l2z e))
  refine y02 (y02 (wpAny_onRaise (y02 (m := y0u (.ref i2)) (D2.done _ _ _ st2 fun h₄ e e₄ he => ?_))))
  obtain ⟨oe, hoe, hce⟩ := he
  have hz₄ : ZipR h₄ z TI TO .ellipsis f1 := e₄ _ _ D.i2z.symm (e₃.extBut _ _ D.TOz.symm (e₂.extBut _ _ D.i1z.symm hz₁))
  have ne : e ≠ z := fun q => by
   subst q
   unfold ZipR at hz₄
   rw [hz₄] at hoe
   cases hoe
   simp at hce
  exact wpAny_setField_rec hz₄ (by simp) fun h₅ _ e₅ => hE h₅ e _ (fun c o c1 c2 c3 c4 q => e₅.extBut _ _ c1 (e₄ _ _ c4 (e₃.extBut _ _ c2 (e₂.extBut _ _ c3 (e₁.extBut _ _ c1 q))))) ⟨oe, e₅.extBut _ _ ne hoe, hce⟩
theorem znr {c : Addr} {Q : Option Obj -> y04 -> Prop} (h : Q (s.heap.get? c) s) : y0v (model prog w) A (loadIfAlive c) Q E s := fun Γ p _ => by
 unfold loadIfAlive
 rw [Sem.wp_loadIfAlive]
 simpa using h
theorem zci {T : Addr} {oT : Obj} {f : Bool} (hz : ZipR s.heap z TI TO (rawInt T) (.bool f)) (hT : s.heap.get? T = some oT) :
  y0v (model prog w) A (y12 (.ref z)) (fun c s' => c = false /\ ∃ h₁, s' = { s with heap := h₁ } /\ ZipR h₁ z TI TO (rawInt T) (.bool true) /\ Heap.SameBut z s.heap h₁) E s := by
 unfold ZipR at hz
 unfold y12
 refine y02 (wpAny_field hz rfl (x := rawInt T) rfl ?_)
 refine y02 (m := loadIfAlive ((T : Nat) : Int).toNat) (znr ?_)
 rw [Int.toNat_natCast, hT]
 simp only [Option.isNone_some, y20, if_false]
 refine y02 (wpAny_field hz rfl (x := .bool f) rfl ?_)
 cases f with
 | true =>
  simp only [bne_self_eq_false, y20, if_false]
  exact y06 ⟨rfl, s.heap, rfl, hz, Heap.SameBut.refl ..⟩
 | false =>
  rw [if_pos (by decide)]
  exact y02 (wpAny_setField_rec hz (by simp) fun h₁ hz₁ e₁ => y06 ⟨rfl, h₁, rfl, hz₁, e₁⟩)
theorem zm7 {Q : Value -> y04 -> Prop} {T : Addr} {oT : Obj} {f : Bool} (D : ZipApart z TI TO i1 i2 l1 l2) (D1 : Draws prog w A i1 [i1, l1] n1 P1 S1) (D2 : Draws prog w A i2 [i2, l2] n2 P2 S2) (hz : ZipR s.heap z TI TO (rawInt T) (.bool f)) (hT : s.heap.get? T = some oT) (hTI : IsPair s.heap TI (.ref i1) (.ref i2))
  (s1 : S1 k s.heap) (s2 : S2 k s.heap) (h1 : k < n1) (h2 : k < n2)
  (hQ : ∀ h' x y tk, P1 k x -> P2 k y -> ZipR h' z TI TO (rawInt T) (.bool true) -> S1 (k + 1) h' -> S2 (k + 1) h' -> IsPair h' s.heap.objs.size x y -> h'.objs.size = s.heap.objs.size + 1 ->
   (∀ c o, c ≠ z -> c ≠ i1 -> c ≠ i2 -> s.heap.get? c = some o -> h'.get? c = some o) -> Q (.ref s.heap.objs.size) { s with heap := h', toks := tk }) :
  y0v (model prog w) A (Builtin.«zip.__next__» ⟨[.ref z], []⟩) (fun fin s' => ∃ v, fin = .done (.ret v) /\ Q v s') E s := by
 have hz0 := hz
 unfold ZipR at hz
 refine y02 (m := field (.ref z) 2) (wpAny_field hz rfl (x := .bool false) rfl (y02 (m := field (.ref z) 3) (wpAny_field hz rfl (x := .ref TI) rfl (y02 (wpAny_seqItems hTI rfl ?_)))))
 refine y02 (m := y12 (.ref z)) (y1g (zci hz0 hT) (fun c s' ⟨ec, h₁, es, hz₁, e₁⟩ => ?_) fun _ _ q => q)
 subst ec es
 simp only [y20, if_false]
 refine y02 ?_
 rw [<- Array.forIn_toList]
 simp only [List.forIn_cons, List.forIn_nil]
 have st1 : S1 k h₁ := D1.frame k _ _ s1 fun c hc o e => by
  rcases y09.mp hc with rfl | hc
  ·exact e₁.extBut _ _ D.i1z e
  ·rw [y11.mp hc] at e ⊢
   exact e₁.extBut _ _ D.l1z e
 refine y02 (y02 (wpAny_holding (y02 (m := y0u (.ref i1)) (D1.item k _ _ _ h1 st1 fun x h₂ tk px t1 e₂ => y06 (y06 ?_)))))
 have st2 : S2 k h₂ := D2.frame k _ _ s2 fun c hc o e => by
  rcases y09.mp hc with rfl | hc
  ·exact e₂.extBut _ _ D.i12.symm (e₁.extBut _ _ D.i2z e)
  ·rw [y11.mp hc] at e ⊢
   exact e₂.extBut _ _ D.l2i1 (e₁.extBut _ _ D.l2z e)
 refine y02 (y02 (wpAny_holding (y02 (m := y0u (.ref i2)) (D2.item k _ _ _ h2 st2 fun y h₃ tk2 py t2 e₃ => y06 (y06 (y06 ?_))))))
 refine y02 (wpAny_newTuple (y06 ⟨_, rfl, ?_⟩) (by show 2 <= y0k; decide))
 have sz3 : h₃.objs.size = s.heap.objs.size := by rw [e₃.1, e₂.1, e₁.1]
 have t1' : S1 (k + 1) h₃ := D1.frame _ _ _ t1 fun c hc o e => by
  rcases y09.mp hc with rfl | hc
  ·exact e₃.extBut _ _ D.i12 e
  ·rw [y11.mp hc] at e ⊢
   exact e₃.extBut _ _ D.l1i2 e
 have hz₃ : ZipR h₃ z TI TO (rawInt T) (.bool true) := e₃.extBut _ _ D.i2z.symm (e₂.extBut _ _ D.i1z.symm hz₁)
 have hp : (h₃.push { cls := .type "tuple", data := .seq #[x, y] }).get? h₃.objs.size = some _ := y0m _ rfl
 show Q (.ref h₃.objs.size) _
 rw [sz3] at hp ⊢
 refine hQ (h₃.push { cls := .type "tuple", data := .seq #[x, y] }) x y _ px py (y03 _ hz₃) (D1.frame _ _ _ t1' fun c _ o e => y03 _ e) (D2.frame _ _ _ t2 fun c _ o e => y03 _ e) hp (by rw [y1a, sz3])
  fun c o c1 c3 c4 e => y03 _ (e₃.extBut _ _ c4 (e₂.extBut _ _ c3 (e₁.extBut _ _ c1 e)))
theorem zd1 {Q : Fin -> y04 -> Prop} {T : Addr} {oT : Obj} {f : Bool} (D : ZipApart z TI TO i1 i2 l1 l2) (D1 : Draws prog w A i1 [i1, l1] n1 P1 S1) (D2 : Draws prog w A i2 [i2, l2] n2 P2 S2) (hz : ZipR s.heap z TI TO (rawInt T) (.bool f)) (hT : s.heap.get? T = some oT) (hTI : IsPair s.heap TI (.ref i1) (.ref i2))
  (s1 : S1 k s.heap) (s2 : S2 k s.heap) (hk : k = n1 \/ (k < n1 /\ k = n2))
  (hE : ∀ h' e tk, (∀ c o, c ≠ z -> c ≠ i1 -> c ≠ i2 -> s.heap.get? c = some o -> h'.get? c = some o) -> (∃ o, h'.get? e = some o /\ o.cls = .type "StopIteration") -> E (.ref e) { s with heap := h', toks := tk }) :
  y0v (model prog w) A (Builtin.«zip.__next__» ⟨[.ref z], []⟩) Q E s := by
 have hz0 := hz
 unfold ZipR at hz
 refine y02 (m := field (.ref z) 2) (wpAny_field hz rfl (x := .bool false) rfl (y02 (m := field (.ref z) 3) (wpAny_field hz rfl (x := .ref TI) rfl (y02 (wpAny_seqItems hTI rfl ?_)))))
 refine y02 (m := y12 (.ref z)) (y1g (zci hz0 hT) (fun c s' ⟨ec, h₁, es, hz₁, e₁⟩ => ?_) fun _ _ q => q)
 subst ec es
 simp only [y20, if_false]
 refine y02 ?_
 rw [<- Array.forIn_toList]
 simp only [List.forIn_cons, List.forIn_nil]
 have st1 : S1 k h₁ := D1.frame k _ _ s1 fun c hc o e => by
  rcases y09.mp hc with rfl | hc
  ·exact e₁.extBut _ _ D.i1z e
  ·rw [y11.mp hc] at e ⊢
   exact e₁.extBut _ _ D.l1z e
 rcases hk with rfl | ⟨h1, rfl⟩
 ·refine y02 (y02 (wpAny_holding (y02 (m := y0u (.ref i1)) (D1.done _ _ _ st1 fun h₂ e e₂ he => ?_))))
  exact hE h₂ e _ (fun c o c1 c3 _ q => e₂ _ _ c3 (e₁.extBut _ _ c1 q)) he
 ·refine y02 (y02 (wpAny_holding (y02 (m := y0u (.ref i1)) (D1.item k _ _ _ h1 st1 fun x h₂ tk px t1 e₂ => y06 (y06 ?_)))))
  have st2 : S2 k h₂ := D2.frame k _ _ s2 fun c hc o e => by
   rcases y09.mp hc with rfl | hc
   ·exact e₂.extBut _ _ D.i12.symm (e₁.extBut _ _ D.i2z e)
   ·rw [y11.mp hc] at e ⊢
    exact e₂.extBut _ _ D.l2i1 (e₁.extBut _ _ D.l2z e)
  refine y02 (y02 (wpAny_holding (y02 (m := y0u (.ref i2)) (D2.done _ _ _ st2 fun h₃ e e₃ he => ?_))))
  exact hE h₃ e _ (fun c o c1 c3 c4 q => e₃ _ _ c4 (e₂.extBut _ _ c3 (e₁.extBut _ _ c1 q))) he
end
end D
end
section
namespace D
open PySem PySem.Spec PyProof.Rows L2
variable [Tbl]
open AutoSeq1 (wpAny_loadPart')
def itN (b : Bool) : String := if b then "list_iterator" else "tuple_iterator"
def itK (b : Bool) (h : Heap) (it l : Addr) (i : Nat) : Prop := match b with
 | true => h.IsListIter it l i
 | false => h.IsTupleIter it l i
def sqK (b : Bool) (h : Heap) (l : Addr) (xs : Array Value) : Prop := match b with
 | true => h.IsList l xs
 | false => h.IsTuple l xs
theorem itK.at {b : Bool} {h h' : Heap} {it l : Addr} {i : Nat} (x : itK b h it l i) (k : ∀ o, h.get? it = some o -> h'.get? it = some o) : itK b h' it l i := by
 cases b with
 | true => exact Heap.IsListIter.at x k
 | false =>
  obtain ⟨o, ho, r⟩ := x
  exact ⟨o, k o ho, r⟩
theorem itK.obj {b : Bool} {h : Heap} {it l : Addr} {i : Nat} (x : itK b h it l i) : ∃ o, h.get? it = some o /\ ∀ v, o.data ≠ .cell v := by
 cases b with
 | true =>
  obtain ⟨o, ho, hc, hd⟩ := x
  exact ⟨o, ho, fun v z => by rw [hd] at z; cases z⟩
 | false =>
  obtain ⟨o, ho, hc, hd⟩ := x
  exact ⟨o, ho, fun v z => by rw [hd] at z; cases z⟩
theorem sqK.at {b : Bool} {h h' : Heap} {l : Addr} {xs : Array Value} (x : sqK b h l xs) (k : ∀ o, h.get? l = some o -> h'.get? l = some o) : sqK b h' l xs := by
 cases b with
 | true =>
  obtain ⟨o, ho, r⟩ := x
  exact ⟨o, k o ho, r⟩
 | false =>
  obtain ⟨o, ho, r⟩ := x
  exact ⟨o, k o ho, r⟩
theorem sqK.lt {b : Bool} {h : Heap} {l : Addr} {xs : Array Value} (x : sqK b h l xs) : l < h.objs.size := by
 cases b with
 | true =>
  obtain ⟨o, ho, r⟩ := x
  exact y0c ho
 | false =>
  obtain ⟨o, ho, r⟩ := x
  exact y0c ho
theorem z6u {prog : y0r} {w : World} {A : Around} (b : Bool) (hh : A.handled = none) (it l : Addr) (hne : l ≠ it) (xs : Array Value) :
  Draws prog w A it [it, l] xs.size (fun i v => xs[i]? = some v) (fun i h => itK b h it l i /\ sqK b h l xs) := by
 cases b with
 | true => exact Draws.list hh it l hne xs
 | false => exact zbf hh it l hne xs
abbrev zl9 (b : Bool) (l : Addr) : Obj := { cls := .type (itN b), data := .fields #[.ref l, .int 0 0] }
abbrev zip3 (b1 b2 : Bool) (h : Heap) (l1 l2 : Addr) : Heap := ((h.push (zl9 b1 l1)).push (zl9 b2 l2)).push { cls := .type "tuple", data := .seq #[.ref h.objs.size, .ref (h.objs.size + 1)] }
abbrev zip4 (b1 b2 : Bool) (h : Heap) (l1 l2 : Addr) : Heap := (zip3 b1 b2 h l1 l2).push { cls := .type "tuple", data := .seq #[.none, .none] }
abbrev zip5 (b1 b2 : Bool) (h : Heap) (l1 l2 : Addr) : Heap := (zip4 b1 b2 h l1 l2).push { cls := .type "zip", data := .fields #[.none, .bool false, .bool false, .ref (h.objs.size + 2), .ref (h.objs.size + 3)] }
section
variable {prog : y0r} {w : World} {A : Around} {E : Value -> y04 -> Prop} {s : y04}
theorem zof {b : Bool} {l : Addr} {xs : Array Value} {Q : Value -> y04 -> Prop} (hl : sqK b s.heap l xs) (h : Q (.ref s.heap.objs.size) { s with heap := s.heap.push (zl9 b l) }) : y0v (model prog w) A (pyIter (.ref l)) Q E s := by
 cases b with
 | true => exact wpAny_pyIter_list hl h
 | false => exact wpAny_pyIter_tuple hl h
theorem zj0 (b1 b2 : Bool) (l1 l2 : Addr) (xs ys : Array Value) :
  Meets (Builtin.«zip.__new__» ⟨[.type "zip", .ref l1, .ref l2], []⟩) (fun _ R s => sqK b1 s.heap l1 xs /\ sqK b2 s.heap l2 ys /\
   R (.ok (.ret (.ref (s.heap.objs.size + 4)))) { s with heap := zip5 b1 b2 s.heap l1 l2 }) :=
 .of_wp fun prog w A R s h => by
  obtain ⟨hp, g, d, tk, os⟩ := s
  obtain ⟨h1, h2, h⟩ := h
  have hsub := sub_zip
  have h1' : sqK b1 (Shared.heap ⟨hp, g, d, tk, os⟩) l1 xs := h1
  have h2' : sqK b2 (Shared.heap ⟨hp.push (zl9 b1 l1), g, d, tk, os⟩) l2 ys := h2.at fun o e => y03 _ e
  wp_walk using zof h1', zof h2'
  refine ⟨_, rfl, ?_⟩
  simp only [y1a] at h ⊢
  exact h
theorem zlu {b1 b2 : Bool} {l1 l2 : Addr} {xs ys : Array Value} {Q : Value -> y04 -> Prop} (h1 : sqK b1 s.heap l1 xs) (h2 : sqK b2 s.heap l2 ys)
  (h : ∀ h', ZipR h' (s.heap.objs.size + 4) (s.heap.objs.size + 2) (s.heap.objs.size + 3) .none (.bool false) -> IsPair h' (s.heap.objs.size + 2) (.ref s.heap.objs.size) (.ref (s.heap.objs.size + 1)) -> IsPair h' (s.heap.objs.size + 3) .none .none ->
   itK b1 h' s.heap.objs.size l1 0 -> itK b2 h' (s.heap.objs.size + 1) l2 0 -> h'.objs.size = s.heap.objs.size + 5 -> (∀ c o, s.heap.get? c = some o -> h'.get? c = some o) -> Q (.ref (s.heap.objs.size + 4)) { s with heap := h' }) :
  y0v (model prog w) A (call (.type "zip") [.ref l1, .ref l2]) Q E s := by
 have hi : ∀ (b : Bool) (h' : Heap) (it l : Addr), h'.get? it = some (zl9 b l) -> itK b h' it l 0 := fun b h' it l e => by
  cases b with
  | true => exact ⟨_, e, rfl, rfl⟩
  | false => exact ⟨_, e, rfl, rfl⟩
 refine callType_new F.called_zip (by decide) (F.typeCall_zip_2 _ _) (F.newCall_zip_2 _ _) (fun obj => F.args_object_init_3 obj _ _) F.entry_zip_new (zj0 b1 b2 l1 l2 xs ys) ⟨h1, h2, ?_⟩
 have at_ : ∀ (hh : Heap) (n : Nat) (o o' : Obj), hh.objs.size = n -> o.isFreed = false -> (hh.push o).get? n = some o := fun hh n o o' e f => by
  rw [<- e]
  exact y0m _ f
 have g5 : (zip5 b1 b2 s.heap l1 l2).get? (s.heap.objs.size + 4) = some _ := at_ (zip4 b1 b2 s.heap l1 l2) (s.heap.objs.size + 4) _ default (by simp only [y1a]) rfl
 refine ⟨⟨_, g5, rfl⟩, h _ g5 ?_ ?_ ?_ ?_ (by simp only [y1a]) fun c o e => y03 _ (y03 _ (y03 _ (y03 _ (y03 _ e))))⟩
 ·exact y03 _ (y03 _ (at_ _ _ _ default (by simp only [y1a]) rfl))
 ·exact y03 _ (at_ _ _ _ default (by simp only [y1a]) rfl)
 ·exact hi b1 _ _ _ (y03 _ (y03 _ (y03 _ (y03 _ (y0m _ rfl)))))
 ·exact hi b2 _ _ _ (y03 _ (y03 _ (y03 _ (at_ _ _ _ default (by simp only [y1a]) rfl))))
end
end D
end
section
namespace D
open PySem PySem.Spec PyProof.Rows L2
variable [Tbl]
theorem zgu : typeLookup (.type "zip") "keys" = pure none := by rw [typeLookup_type, builtinLookup_eq_fast]; kernel_rfl
theorem zbz : typeLookup (.type "zip") "__getattr__" = pure none := by rw [typeLookup_type, builtinLookup_eq_fast]; kernel_rfl
theorem zfc : entryFor table "zip.__getattribute__" = some Builtin.«object.__getattribute__» := entryFor_alias (id' := "object.__getattribute__") (by kernel_rfl) (by decide +kernel) (by decide +kernel) (by kernel_rfl)
theorem zby (a : Addr) (vs : Array Value) (name : Str) (u : Tok) (hmiss : typeLookup (.type "zip") name = pure none) (hname : (["__module__", "__name__", "__qualname__", "__doc__", "__annotations__"] : List Str).contains name = false) (hsz : name.length + 100 <= y0k) :
  Meets (Builtin.«object.__getattribute__» ⟨[.ref a, .str name u], []⟩) (fun A R s => s.heap.get? a = some { cls := .type "zip", dict := none, data := .fields vs, slots := #[] } /\ raisesAttr (.ref a) name A R s) :=
 Meets.of_wp fun prog w A R s hs => by
  obtain ⟨hp, g, d, tk, os⟩ := s
  obtain ⟨hx, hs⟩ := hs
  have ty : (⟨hp, g, d, tk, os⟩ : y04).TypeIs (.ref a) "zip" := ⟨_, hx, rfl⟩
  unfold Builtin.«object.__getattribute__»
  repeat (any_goals (first | assumption | wp_step))
  simp only [hname, y20, if_false]
  repeat (any_goals (first | assumption | wp_step))
  exact wpAny_raiseAttrError hs.1 hs.2 (attrMsg_fits (by decide +kernel) hsz)
theorem zn2 {prog : y0r} {w : World} {A : Around} {E : Value -> y04 -> Prop} {s : y04} {a : Addr} {vs : Array Value} {Q : Option Value -> y04 -> Prop}
  (hx : s.heap.get? a = some { cls := .type "zip", dict := none, data := .fields vs, slots := #[] }) (hA : A.handled = none)
  (h : ∀ h' tk, (∀ b o, s.heap.get? b = some o -> h'.get? b = some o) -> Q none { s with heap := h', toks := tk }) :
  y0v (model prog w) A (getAttr? (.ref a) "keys") Q E s := by
 obtain ⟨hp, g, d, tk, os⟩ := s
 have ty : ∀ tk', (⟨hp, g, d, tk', os⟩ : y04).TypeIs (.ref a) "zip" := fun _ => ⟨_, hx, rfl⟩
 have f1 := sub_AttributeError
 have f3 := F.slot_zip_getattribute.lookup
 have f4 := F.slot_zip_getattribute.bind (.ref a)
 have f5 := zbz
 have nm : (["__module__", "__name__", "__qualname__", "__doc__", "__annotations__"] : List Str).contains ("keys" : Str) = false := by decide +kernel
 have sz : ("keys" : Str).length + 100 <= y0k := by rw [sizeLine_eq]; decide
 unfold getAttr? getAttrBy? getAttrBy
 repeat (any_goals (first | assumption | exact ty _ | ((with_reducible show y0v _ _ (call (Value.builtin "zip.__getattribute__") _ _) _ _ _); refine call_meets F.slot_zip_getattribute (ty _) zfc (F.args_zip_getattribute_2 _ _) (zby a vs "keys" _ zgu nm sz) ⟨hx, hA, fun h' tk' e hx' => ?_⟩) | wp_step))
 obtain ⟨t', u', he⟩ := hx'.there
 show y0v _ _ (getattributeRaised _ _ _ _ _ _ _) _ _ _
 unfold getattributeRaised
 repeat (any_goals (first | assumption | wp_step))
 exact h _ _ hx'.keeps
section
variable {prog : y0r} {w : World} {K : Type} [DecidableEq K] {knd : PySem.KeyKind prog w K} {A : Around} {E : Value -> y04 -> Prop} {s : y04} {R : Result -> y04 -> Prop} {z TI TO i1 i2 l1 l2 : Addr} {b1 b2 : Bool} {xs ys : Array Value}
def zg3 (S z TI TO i1 i2 l1 l2 : Addr) (b1 b2 : Bool) (xs ys : Array Value) (i : Nat) (h : Heap) : Prop := IsPair h TI (.ref i1) (.ref i2) /\ (∃ a b, IsPair h TO a b) /\ (itK b1 h i1 l1 i /\ sqK b1 h l1 xs) /\ (itK b2 h i2 l2 i /\ sqK b2 h l2 ys) /\
 (ZipR h z TI TO .none (.bool false) \/ ∃ (T : Nat) (oT : Obj) (f : Bool), ZipR h z TI TO (rawInt T) (.bool f) /\ h.get? T = some oT /\ T ≠ S /\ T ≠ z /\ T ≠ TO /\ T ≠ i1 /\ T ≠ i2)
def Kept (S z TO i1 i2 : Addr) (h h' : Heap) : Prop := ∀ c o, c ≠ S -> c ≠ z -> c ≠ TO -> c ≠ i1 -> c ≠ i2 -> h.get? c = some o -> h'.get? c = some o
theorem zia {S : Addr} {i : Nat} {Q : Option Value -> y04 -> Prop} (hh : A.handled = none) (D : ZipApart z TI TO i1 i2 l1 l2) (st : zg3 S z TI TO i1 i2 l1 l2 b1 b2 xs ys i s.heap) (hS : ∃ o, s.heap.get? S = some o) (hSz : S ≠ z /\ S ≠ TO /\ S ≠ i1 /\ S ≠ i2)
  (hx : i < xs.size) (hy : i < ys.size)
  (hQ : ∀ h' tk, IsPair h' s.heap.objs.size xs[i] ys[i] -> zg3 S z TI TO i1 i2 l1 l2 b1 b2 xs ys (i + 1) h' -> (∀ o, s.heap.get? S = some o -> h'.get? S = some o) -> Kept S z TO i1 i2 s.heap h' -> s.heap.objs.size <= h'.objs.size -> Q (some (.ref s.heap.objs.size)) { s with heap := h', toks := tk }) :
  y0v (model prog w) A (pyNext (.ref z)) Q E s := by
 obtain ⟨hTI, ⟨a, b, hTO⟩, q1, q2, hz⟩ := st
 have zlt : ∀ {f0 f1 : Value}, ZipR s.heap z TI TO f0 f1 -> z < s.heap.objs.size := fun h => y0c h
 have hT : s.TypeIs (.ref z) "zip" := by
  rcases hz with h | ⟨T, oT, f, h, _⟩
  ·exact ⟨_, h, rfl⟩
  ·exact ⟨_, h, rfl⟩
 have ilt : i1 < s.heap.objs.size /\ i2 < s.heap.objs.size := by
  obtain ⟨o1, e1, _⟩ := q1.1.obj
  obtain ⟨o2, e2, _⟩ := q2.1.obj
  exact ⟨y0c e1, y0c e2⟩
 have Slt : S < s.heap.objs.size := by
  obtain ⟨o, e⟩ := hS
  exact y0c e
 have TOlt : TO < s.heap.objs.size := y0c hTO
 unfold pyNext
 refine y02 (wpAny_attempt (wpAny_callSpecial?_slot (name := Str.ofString "__next__") hT F.slot_zip_next (wpAny_call_entry F.slot_zip_next hT F.entry_zip_next ?_ (F.args_zip_next_1 _))))
 rcases hz with hz | ⟨T, oT, f, hz, hTo, t1, t2, t3, t4, t5⟩
 ·refine zm8 (S1 := fun i h => itK b1 h i1 l1 i /\ sqK b1 h l1 xs) (S2 := fun i h => itK b2 h i2 l2 i /\ sqK b2 h l2 ys) D (z6u (A := A.in1) b1 hh i1 l1 D.l1i1 xs) (z6u (A := A.in1) b2 hh i2 l2 D.l2i2 ys) hz hTI hTO q1 q2 hx hy fun h' x y tk px py hz' hTO' s1 s2 hp hsz kp => y06 ?_
  have ex : xs[i] = x := Option.some.inj ((y1t hx).symm.trans px)
  have ey : ys[i] = y := Option.some.inj ((y1t hy).symm.trans py)
  subst ex ey
  refine hQ h' tk hp ⟨kp _ _ D.TIz D.TITO D.TIi1 D.TIi2 hTI, ⟨_, _, hTO'⟩, s1, s2, .inr ⟨_, _, false, hz', hp, ?_⟩⟩ (fun o e => kp _ _ hSz.1 hSz.2.1 hSz.2.2.1 hSz.2.2.2 e) (fun c o _ c2 c3 c4 c5 e => kp c o c2 c3 c4 c5 e) (by omega)
  exact ⟨y18 Slt, y18 (zlt hz), y18 TOlt, y18 ilt.1, y18 ilt.2⟩
 ·refine zm7 (S1 := fun i h => itK b1 h i1 l1 i /\ sqK b1 h l1 xs) (S2 := fun i h => itK b2 h i2 l2 i /\ sqK b2 h l2 ys) D (z6u (A := A.in1) b1 hh i1 l1 D.l1i1 xs) (z6u (A := A.in1) b2 hh i2 l2 D.l2i2 ys) hz hTo hTI q1 q2 hx hy fun h' x y tk px py hz' s1 s2 hp hsz kp => y06 ?_
  have ex : xs[i] = x := Option.some.inj ((y1t hx).symm.trans px)
  have ey : ys[i] = y := Option.some.inj ((y1t hy).symm.trans py)
  subst ex ey
  exact hQ h' tk hp ⟨kp _ _ D.TIz D.TIi1 D.TIi2 hTI, ⟨a, b, kp _ _ D.TOz D.TOi1 D.TOi2 hTO⟩, s1, s2, .inr ⟨T, oT, true, hz', kp _ _ t2 t4 t5 hTo, t1, t2, t3, t4, t5⟩⟩ (fun o e => kp _ _ hSz.1 hSz.2.2.1 hSz.2.2.2 e) (fun c o _ c2 c3 c4 c5 e => kp c o c2 c4 c5 e) (by omega)
theorem zib {S : Addr} {i : Nat} {Q : Option Value -> y04 -> Prop} (hh : A.handled = none) (D : ZipApart z TI TO i1 i2 l1 l2) (st : zg3 S z TI TO i1 i2 l1 l2 b1 b2 xs ys i s.heap) (hSz : S ≠ z /\ S ≠ TO /\ S ≠ i1 /\ S ≠ i2) (hi : i = xs.size \/ (i < xs.size /\ i = ys.size))
  (hQ : ∀ h' tk, (∀ o, s.heap.get? S = some o -> h'.get? S = some o) -> Kept S z TO i1 i2 s.heap h' -> Q none { s with heap := h', toks := tk }) :
  y0v (model prog w) A (pyNext (.ref z)) Q E s := by
 obtain ⟨hTI, ⟨a, b, hTO⟩, q1, q2, hz⟩ := st
 have hT : s.TypeIs (.ref z) "zip" := by
  rcases hz with h | ⟨T, oT, f, h, _⟩
  ·exact ⟨_, h, rfl⟩
  ·exact ⟨_, h, rfl⟩
 unfold pyNext
 refine y02 (wpAny_attempt (wpAny_callSpecial?_slot (name := Str.ofString "__next__") hT F.slot_zip_next (wpAny_call_entry F.slot_zip_next hT F.entry_zip_next ?_ (F.args_zip_next_1 _))))
 rcases hz with hz | ⟨T, oT, f, hz, hTo, t1, t2, t3, t4, t5⟩
 ·refine zm6 (S1 := fun i h => itK b1 h i1 l1 i /\ sqK b1 h l1 xs) (S2 := fun i h => itK b2 h i2 l2 i /\ sqK b2 h l2 ys) D (z6u (A := A.in1) b1 hh i1 l1 D.l1i1 xs) (z6u (A := A.in1) b2 hh i2 l2 D.l2i2 ys) hz hTI hTO q1 q2 hi fun h' e tk kp he => ?_
  obtain ⟨o, ho, hc⟩ := he
  refine y02 (wpAny_isInstance (T := "StopIteration") (b := true) ⟨o, ho, hc⟩ isSubtype_stop (y06 ?_))
  exact hQ h' tk (fun o e => kp _ _ hSz.1 hSz.2.1 hSz.2.2.1 hSz.2.2.2 e) fun c o _ c2 c3 c4 c5 e => kp c o c2 c3 c4 c5 e
 ·refine zd1 (S1 := fun i h => itK b1 h i1 l1 i /\ sqK b1 h l1 xs) (S2 := fun i h => itK b2 h i2 l2 i /\ sqK b2 h l2 ys) D (z6u (A := A.in1) b1 hh i1 l1 D.l1i1 xs) (z6u (A := A.in1) b2 hh i2 l2 D.l2i2 ys) hz hTo hTI q1 q2 hi fun h' e tk kp he => ?_
  obtain ⟨o, ho, hc⟩ := he
  refine y02 (wpAny_isInstance (T := "StopIteration") (b := true) ⟨o, ho, hc⟩ isSubtype_stop (y06 ?_))
  exact hQ h' tk (fun o e => kp _ _ hSz.1 hSz.2.2.1 hSz.2.2.2 e) fun c o _ c2 c3 c4 c5 e => kp c o c2 c4 c5 e
theorem zg3.frame {S : Addr} {i : Nat} {h h' : Heap} (st : zg3 S z TI TO i1 i2 l1 l2 b1 b2 xs ys i h) (hS : ∀ c ∈ [z, TI, TO, i1, i2, l1, l2], S ≠ c) (k : ∀ c o, c ≠ S -> h.get? c = some o -> h'.get? c = some o) : zg3 S z TI TO i1 i2 l1 l2 b1 b2 xs ys i h' := by
 obtain ⟨hTI, ⟨a, b, hTO⟩, q1, q2, hz⟩ := st
 have ne : ∀ c ∈ [z, TI, TO, i1, i2, l1, l2], c ≠ S := fun c hc => (hS c hc).symm
 refine ⟨k _ _ (ne _ (by simp)) hTI, ⟨a, b, k _ _ (ne _ (by simp)) hTO⟩, ⟨q1.1.at fun o e => k _ _ (ne _ (by simp)) e, q1.2.at fun o e => k _ _ (ne _ (by simp)) e⟩, ⟨q2.1.at fun o e => k _ _ (ne _ (by simp)) e, q2.2.at fun o e => k _ _ (ne _ (by simp)) e⟩, ?_⟩
 rcases hz with hz | ⟨T, oT, f, hz, hT, t⟩
 ·exact .inl (k _ _ (ne z (by simp)) hz)
 ·exact .inr ⟨T, oT, f, k _ _ (ne z (by simp)) hz, k _ _ t.1 hT, t⟩
theorem zfh (hh : A.handled = none) (D : ZipApart z TI TO i1 i2 l1 l2) (S : Addr) (hS : ∀ c ∈ [z, TI, TO, i1, i2, l1, l2], S ≠ c) (kvs : List (K × Value)) (hnd : (kvs.map (·.1)).Nodup) (hlen : kvs.length = min xs.size ys.size) (hz : kvs.length <= y0k)
  (hkv : ∀ (j : Nat) (kv : K × Value), kvs[j]? = some kv -> ∃ key, xs[j]? = some key /\ knd.is kv.1 key = true /\ ys[j]? = some kv.2) :
  ∀ (k i : Nat) (s : y04) (c : Int) (ct : Tok), kvs.length - i = k -> i <= kvs.length -> zg3 S z TI TO i1 i2 l1 l2 b1 b2 xs ys i s.heap -> s.heap.DictOf knd S (kvs.take i) ->
   (∀ h' tk, Kept S z TO i1 i2 s.heap h' -> h'.DictOf knd S kvs -> R (.ok (.ret .none)) { s with heap := h', toks := tk }) ->
   codeAny (model prog w) A (.builtin "dict.update.loop" ⟨[.ref S, .ref z, .int c ct, .none], []⟩) R s := by
 have hSz : S ≠ z /\ S ≠ TO /\ S ≠ i1 /\ S ≠ i2 := ⟨hS _ (by simp), hS _ (by simp), hS _ (by simp), hS _ (by simp)⟩
 intro k
 induction k with
 | zero =>
  intro i s c ct hk hi hst hd hR
  have hin : i = kvs.length := by omega
  subst hin
  refine codeAny_builtin zfe ?_
  rw [y22 z8d _]
  refine y02 (m := pyNext (.ref z)) (zib (A := A.in1) hh D hst hSz (by omega) fun h' tk hSS kp => ?_)
  refine y02 (m := Builtin.Dict.addKeywords S []) (y06 ?_)
  rw [List.take_of_length_le (y0p _)] at hd
  exact y06 (hR h' tk kp (hd.at fun o e => hSS o e))
 | succ k ih =>
  intro i s c ct hk hi hst hd hR
  have hlt : i < kvs.length := by omega
  have hx : i < xs.size := by omega
  have hy : i < ys.size := by omega
  have hSo : ∃ o, s.heap.get? S = some o := by
   obtain ⟨o, _, _, e, _⟩ := hd
   exact ⟨o, e⟩
  refine codeAny_builtin zfe ?_
  rw [y22 z8d _]
  refine y02 (m := pyNext (.ref z)) (zia (A := A.in1) hh D hst hSo hSz hx hy fun h' tk hp st' hSS kp hsz => ?_)
  have hget : kvs[i]? = some kvs[i] := y0w hlt
  obtain ⟨key, e1, e2, e3⟩ := hkv i _ hget
  have ex : xs[i] = key := Option.some.inj ((y1t hx).symm.trans e1)
  have ey : ys[i] = kvs[i].2 := Option.some.inj ((y1t hy).symm.trans e3)
  rw [ex, ey] at hp
  refine y02 (wpAny_holding (y02 (wpAny_tryCatch (zin (s := { s with heap := h', toks := tk }) hp rfl rfl ?_))))
  have hd1 : h'.DictOf knd S (kvs.take i) := hd.at fun o e => hSS o e
  refine wpAny_holding (wpAny_dictSet_pairs (s := { s with heap := h', toks := tk }) e2 hd1 (fun h2 hd2 hsb => ?_) (by rw [List.length_take]; omega))
  have hnew : kvs[i].1 ∉ (kvs.take i).map (·.1) := fun q => by
   rw [<- List.take_append_drop i kvs, List.map_append, y1r] at hnd
   refine hnd.2.2 _ q _ (y0n.mpr ⟨kvs[i], ?_, rfl⟩) rfl
   rw [List.drop_eq_getElem_cons hlt]
   exact y0f
  rw [zig hnew, show kvs.take i ++ [(kvs[i].1, kvs[i].2)] = kvs.take (i + 1) by rw [List.take_succ, hget]; rfl] at hd2
  refine y06 ⟨plainId_quiet z8d _, ih (i + 1) _ _ _ (by omega) hlt (st'.frame hS fun c o hc e => ?_) hd2 fun h3 tk3 kp3 hd3 => hR h3 tk3 (fun c o c1 c2 c3 c4 c5 e => kp3 c o c1 c2 c3 c4 c5 ?_) hd3⟩
  ·exact (hsb.2 c hc).trans e
  ·exact (hsb.2 c c1).trans (kp c o c1 c2 c3 c4 c5 e)
theorem zjf {kvs : List (K × Value)} {Q : Value -> y04 -> Prop} (hh : A.handled = none) (D : ZipApart z TI TO i1 i2 l1 l2) (st : zg3 s.heap.objs.size z TI TO i1 i2 l1 l2 b1 b2 xs ys 0 s.heap) (hz : ZipR s.heap z TI TO .none (.bool false)) (hnd : (kvs.map (·.1)).Nodup) (hlen : kvs.length = min xs.size ys.size) (hsz : kvs.length <= y0k)
  (hkv : ∀ (j : Nat) (kv : K × Value), kvs[j]? = some kv -> ∃ key, xs[j]? = some key /\ knd.is kv.1 key = true /\ ys[j]? = some kv.2)
  (h : ∀ (h' : Heap) (tk : Nat), h'.DictOf knd s.heap.objs.size kvs -> (∀ c o, c ≠ z -> c ≠ TO -> c ≠ i1 -> c ≠ i2 -> s.heap.get? c = some o -> h'.get? c = some o) -> Q (.ref s.heap.objs.size) { s with heap := h', toks := tk }) :
  y0v (model prog w) A (call (.type "dict") [.ref z]) Q E s := by
 obtain ⟨hTI, ⟨a, b, hTO⟩, q1, q2, _⟩ := id st
 have zlt : z < s.heap.objs.size := y0c hz
 have hS : ∀ c ∈ [z, TI, TO, i1, i2, l1, l2], s.heap.objs.size ≠ c := by
  obtain ⟨o1, e1, _⟩ := q1.1.obj
  obtain ⟨o2, e2, _⟩ := q2.1.obj
  have a1 := y0c hTI
  have a2 := y0c hTO
  have a3 := y0c e1
  have a4 := y0c e2
  have a5 := q1.2.lt
  have a6 := q2.2.lt
  intro c hc
  simp only [y09, List.not_mem_nil, or_false] at hc
  rcases hc with rfl | rfl | rfl | rfl | rfl | rfl | rfl
  ·exact y18 zlt
  ·exact y18 a1
  ·exact y18 a2
  ·exact y18 a3
  ·exact y18 a4
  ·exact y18 a5
  ·exact y18 a6
 refine callType_codes (Q₁ := fun obj s₁ => obj = .ref s.heap.objs.size /\ s₁ = { s with heap := s.heap.push { cls := .type "dict", data := .dict #[] } }) F.kt_called_dict (F.kt_typeCall_dict_1 _) F.entry_dict_init (kt_code_dict_new _ ⟨rfl, rfl⟩) ?_
 rintro obj s₁ ⟨rfl, rfl⟩
 have d0 : (s.heap.push { cls := .type "dict", data := .dict #[] }).DictOf knd s.heap.objs.size [] := Heap.DictOf.new s.heap
 have hz1 : ZipR (s.heap.push { cls := .type "dict", data := .dict #[] }) z TI TO .none (.bool false) := y03 _ hz
 refine ⟨d0.typeIs, F.args_dict_init_2 _ _, ?_⟩
 unfold Builtin.«dict.__init__»
 refine y02 ?_
 unfold Builtin.Dict.selfAndRest
 refine y02 (wpAny_notOrdered_dict d0.typeIs ?_)
 show y0v _ _ (pure (s.heap.objs.size, [Value.ref z])) _ _ _
 refine y06 ?_
 show y0v _ _ (Builtin.Dict.updateFrom "dict.__init__" s.heap.objs.size (.ref z) [] .none) _ _ _
 unfold Builtin.Dict.updateFrom
 refine y02 (wpAny_typeOf (show Shared.TypeIs _ (.ref z) "zip" from ⟨_, hz1, rfl⟩) ?_)
 rw [if_pos (by decide)]
 refine y02 (zn2 hz1 (by simp [hh]) fun h2 tk2 k2 => ?_)
 have hz2 : IsZip h2 z TI TO .none := k2 _ _ hz1
 simp only [Option.isNone_none, if_true]
 refine y02 (wpAny_rule (y02 (wpAny_pyIter_zip (s := { s with heap := h2, toks := tk2 }) hz2 (y06 ⟨plainId_quiet z8d _, ?_⟩))))
 have kp : ∀ c o, s.heap.get? c = some o -> h2.get? c = some o := fun c o e => k2 _ _ (y03 _ e)
 refine zfh (knd := knd) (by simp [hh]) D s.heap.objs.size hS kvs hnd hlen hsz hkv (kvs.length - 0) 0 _ 0 _ (by omega) (y2c _) (st.frame hS fun c o _ e => kp c o e) (by simpa using d0.at fun o e => k2 _ _ e) fun h' tk kp3 hd3 => ⟨rfl, h h' tk hd3 fun c o c2 c3 c4 c5 e => ?_⟩
 exact kp3 c o (y10 (y0c e)) c2 c3 c4 c5 (kp c o e)
end
end D
end
section
namespace D
open PySem PySem.Spec PyProof.Rows L2
variable [Tbl]
theorem zg6 {n l1 l2 : Nat} (h1 : l1 < n) (h2 : l2 < n) : ZipApart (n + 4) (n + 2) (n + 3) n (n + 1) l1 l2 := by constructor <;> (show (_ : Nat) ≠ _) <;> omega
section
variable {X : Cx} {a b : Expr} {f g : Fe} {p p2 pos pos2 : Pos}
def zipV : List L2.Key -> List V -> List (L2.Key × V)
 | k :: ks, v :: vs => (k, v) :: zipV ks vs
 | _, _ => []
theorem zhd : ∀ (ks : List L2.Key) (vs : List V), (zipV ks vs).length = min ks.length vs.length
 | [], vs => by simp [zipV]
 | k :: ks, [] => by simp [zipV]
 | k :: ks, v :: vs => by simp only [zipV, y0x, zhd ks vs]; omega
theorem zg5 : ∀ {ks : List L2.Key} {vs : List V} {us : List Value}, Vals vs us -> KV (zipV ks vs) ((ks.zip us))
 | [], vs, us, _ => by
  rw [show zipV [] vs = [] from rfl, List.zip_nil_left]
  exact .nil
 | k :: ks, _, _, .nil => .nil
 | k :: ks, _, _, .cons r t => .cons ⟨rfl, r⟩ (zg5 t)
theorem zjq (X : Cx) {ks : List L2.Key} {us : List Value} {xs : List Value} (hx : Vals (ks.map kV) xs) (j : Nat) (kv : L2.Key × Value) (h : (ks.zip us)[j]? = some kv) : ∃ key, xs.toArray[j]? = some key /\ zf7 kv.1 key = true /\ us.toArray[j]? = some kv.2 := by
 rw [List.getElem?_zip_eq_some] at h
 obtain ⟨h1, h2⟩ := h
 obtain ⟨u, hu, ru⟩ := hx.get (i := j) (x := kV kv.1) (by rw [y17, h1]; rfl)
 refine ⟨u, by simpa using hu, zna (P := X.prog) (w := X.w) ru, by simpa using h2⟩
def zs8 (K : y00) (ta : TA) : TE := fun σ H Q => ta σ H fun vs H1 => ∃ l1 l2 ks ys, vs = [.ref l1, .ref l2] /\ SqL K H1 l1 (ks.map kV) /\ SqT K H1 l2 ys /\ ((zipV ks ys).map (·.1)).Nodup /\ (zipV ks ys).length <= 1000 /\ ∀ q, H1 q = none -> Q (.ref q) (upd H1 q (.dK (zipV ks ys)))
theorem zim {ta : TA} (hc : X.calm = true) (hd : X.mg "dict" = none) (hz : X.mg "zip" = none) (ha : PA X [a, b] ta) (hg : Gl X "dict") (hgz : Gl X "zip") (he2 : y0a [a, b] X.env = (false, eval a X.env) :: y0a [b] X.env) (hpl2 : (backTo pos2 (y0a [b] X.env)).any (·.1) = false)
  (he : y0a [.Call (.Name "zip" p2) [a, b] [] pos2] X.env = (false, eval (.Call (.Name "zip" p2) [a, b] [] pos2) X.env) :: y0a [] X.env) (hpl : (backTo pos (y0a [] X.env)).any (·.1) = false) :
  PE X (.Call (.Name "dict" p) [.Call (.Name "zip" p2) [a, b] [] pos2] [] pos) (zs8 X.K ta) := by
 intro pins s σ H Q I h
 refine wpAny_Call_Name_kw (zcs I hg hd PyProof.Rows.boot_dict ?_)
 refine y1z ?_ he hpl
 rw [he]
 show y0v _ _ (spliced ((false, eval (.Call (.Name "zip" p2) [a, b] [] pos2) X.env) :: backTo pos (y0a [] X.env))) _ _ s
 refine Calls.spliced_cons (wpAny_Call_Name_kw (zcs I hgz hz PyProof.Rows.boot_zip (y1z (thn (ha pos2 pins s σ H _ I h) fun us s1 ⟨vs, H1, I1, r1, q1⟩ => ?_) he2 hpl2)))
 obtain ⟨l1, l2, ks, ys, rfl, hq1, hq2, hnd, hle, q⟩ := q1
 obtain ⟨u1, u2, rfl, e1, e2⟩ := r1.two
 cases e1
 cases e2
 obtain ⟨its, rv, pl, hz1⟩ := I1.list hq1
 obtain ⟨its2, rv2, pl2, hz2⟩ := I1.tuple hq2
 have k1 : sqK true s1.heap l1 its.toArray := pl.isList
 have k2 : sqK false s1.heap l2 its2.toArray := pl2
 refine zlu k1 k2 fun h' hzr hTI hTO hi1 hi2 hsz hk => Calls.spliced_nil ?_
 have hl1 : ks.length = its.length := by have := rv.length; simpa using this
 have hl2 : ys.length = its2.length := rv2.length
 have hlen : (ks.zip its2).length = (zipV ks ys).length := by rw [zhd, List.length_zip, hl2]
 have hk1 : (ks.zip its2).map (·.1) = (zipV ks ys).map (·.1) := (zl2 (zg5 rv2)).symm
 have big := I1.big
 have sz5 : h'.objs.size = s1.heap.objs.size + 5 := hsz
 refine zjf (knd := z1m X.prog X.w) (kvs := ks.zip its2) (s := { s1 with heap := h' }) (I1.ok.hd hc) (zg6 k1.lt k2.lt) ⟨hTI, ⟨_, _, hTO⟩, ⟨hi1, k1.at fun o e => hk _ o e⟩, ⟨hi2, k2.at fun o e => hk _ o e⟩, .inl hzr⟩ hzr (by rw [hk1]; exact hnd) (by rw [List.length_zip, y0i, y0i, hl1]) (by rw [hlen, sizeLine_eq]; omega) (fun j kv e => zjq X rv j kv e) fun h2 tk hd2 kp2 => ?_
 have keep : ∀ c o, s1.heap.get? c = some o -> h2.get? c = some o := fun c o e => by
  have hc : c < s1.heap.objs.size := y0c e
  have ne : ∀ m : Nat, c ≠ s1.heap.objs.size + m := fun m => y10 (y0y hc (Nat.le_add_right _ m))
  exact kp2 c o (ne 4) (ne 3) (ne 0) (ne 1) (hk c o e)
 have le5 : s1.heap.objs.size <= h'.objs.size := by rw [sz5]; exact Nat.le_add_right _ _
 refine ⟨.ref h'.objs.size, _, z8l (s := s1) I1 (o := .dK (zipV ks ys)) (d' := s1.drawn) (t' := tk) keep le5 ⟨by rw [sizeLine_eq]; omega, ?_, ks.zip its2, zg5 rv2, hd2⟩, rfl, q _ (I1.hok.fresh le5)⟩
 rw [beq_eq_false_iff_ne]
 exact y18 (y0y big le5)
variable {c C i j : Nat} {ns : List Str} {fn : Str} {o : Expr} {apos : Pos}
theorem zhe {K : y00} {F : Addr -> Prop} {H : Hp} : ∀ {lk lv : List T} {kvs : List (D.Key × T)} {ws ys : List V}, zipD lk lv = some kvs -> RepL K F H lk ws -> RepL K F H lv ys -> (∀ t ∈ lk, ∃ k, z5a t = some k) -> ∃ ks : List L2.Key, ws = ks.map kV /\ RepD K F H kvs (zipV ks ys) /\ (zipV ks ys).map (·.1) = kvs.map (·.1)
 | [], lv, kvs, ws, ys, e, h1, h2, _ => by
  cases e
  simp only [RepL] at h1
  subst h1
  exact ⟨[], rfl, rfl, rfl⟩
 | t :: lk, [], kvs, ws, ys, e, h1, h2, ha => by
  cases e
  simp only [RepL] at h1 h2
  subst h2
  obtain ⟨v, r, rfl, q, z⟩ := h1
  obtain ⟨k, hk⟩ := ha t (by simp)
  have hv : v = kV k := z7v (O := fun _ => False) hk (.inl q)
  have key : ∀ {lk : List T} {r : List V}, RepL K F H lk r -> (∀ t ∈ lk, ∃ k, z5a t = some k) -> ∃ ks : List L2.Key, r = ks.map kV := by
   intro lk
   induction lk with
   | nil =>
    intro r h _
    simp only [RepL] at h
    exact ⟨[], h⟩
   | cons t lk ih =>
    intro r h ha
    simp only [RepL] at h
    obtain ⟨v, r', rfl, q, z⟩ := h
    obtain ⟨k, hk⟩ := ha t (by simp)
    obtain ⟨ks, rfl⟩ := ih z fun u hu => ha u (y05 _ hu)
    exact ⟨k :: ks, by rw [z7v (O := fun _ => False) hk (.inl q)]; rfl⟩
  obtain ⟨ks, rfl⟩ := key z fun u hu => ha u (y05 _ hu)
  exact ⟨k :: ks, by rw [hv]; rfl, rfl, rfl⟩
 | t :: lk, u :: lv, kvs, ws, ys, e, h1, h2, ha => by
  simp only [zipD, y01, y07] at e
  obtain ⟨k, hk, r, er, rfl⟩ := e
  simp only [RepL] at h1 h2
  obtain ⟨v, r1, rfl, q1, z1⟩ := h1
  obtain ⟨w, r2, rfl, q2, z2⟩ := h2
  obtain ⟨ks, rfl, rd, rk⟩ := zhe er z1 z2 fun u hu => ha u (y05 _ hu)
  exact ⟨k :: ks, by rw [z7v (O := fun _ => False) hk (.inl q1)]; rfl, ⟨w, _, rfl, q2, rd⟩, by simp [zipV, rk]⟩
theorem zk2 (k : ClOk X.K c C ns) (hc : X.calm = true) (hd : X.mg "dict" = none) (hz : X.mg "zip" = none) (hn : PE X o (tVar i)) (ha : PEr X a f) (hb : PEr X b g) {dpos : Pos} (hj : ns[j]? = some fn := by rfl) (hg : Gl X "dict" := by rfl) (hgz : Gl X "zip" := by rfl)
  (he2 : y0a [a, b] X.env = (false, eval a X.env) :: y0a [b] X.env := by rfl) (he3 : y0a [b] X.env = (false, eval b X.env) :: y0a [] X.env := by rfl) (hpl2 : (backTo pos2 (y0a [b] X.env)).any (·.1) = false := by rfl)
  (he : y0a [.Call (.Name "zip" p2) [a, b] [] pos2] X.env = (false, eval (.Call (.Name "zip" p2) [a, b] [] pos2) X.env) :: y0a [] X.env := by rfl) (hpl : (backTo dpos (y0a [] X.env)).any (·.1) = false := by rfl)
  (hs : swapsWith (.Call (.Name "dict" p) [.Call (.Name "zip" p2) [a, b] [] pos2] [] dpos) (some (.Attribute o fn apos)) pos.line X.env = pure false := by rfl) :
  PSt X (.Assign [.Attribute o fn apos] (.Call (.Name "dict" p) [.Call (.Name "zip" p2) [a, b] [] pos2] [] dpos) pos) (zjm c i j f g) :=
 z3s (zkl hn (zim hc hd hz (z49 ha (z49 hb z6l he3) he2) hg hgz he2 hpl2 he hpl) hs) fun D σ H ⟨F₀, E, O, F, ε, o, r, e, kk⟩ => by
 simp only [zjm, y01] at e
 obtain ⟨tk, etk, tv, etv, e⟩ := e
 split at e
 next lk lv =>
  simp only [y01] at e
  obtain ⟨kvs, ez, e⟩ := e
  split at e
  next hcond =>
   simp only [y07] at e
   obtain ⟨ε', es, rfl⟩ := e
   refine ⟨F₀, E, O, F, ε, _, r, etk, fun v1 F1 H1 x1 q1 => ⟨F₀, E, O, F1, ε, _, r.ext x1, etv, fun v2 F2 H2 x2 q2 => ?_⟩⟩
   obtain ⟨l1, ws, rfl, hl1, hr1⟩ := (q1.ext x2).lst
   obtain ⟨l2, ys, rfl, hl2, hr2⟩ := q2.tup
   obtain ⟨ks, rfl, rd, rk⟩ := zhe ez hr1 hr2 fun t ht => Option.isSome_iff_exists.mp (hcond.2.2 t ht)
   have x12 := x1.trans x2
   refine ⟨l1, l2, ks, ys, rfl, .inl hl1, hl2, by rw [rk]; exact hcond.1, by have := congrArg List.length rk; simp only [y16] at this; omega, fun q hq => ?_⟩
   have x3 := Ext.laid (o := .dK (zipV ks ys)) x12.dom hq
   have x13 := x12.trans x3
   have r1 := r.ext x13
   have hnew : H q = none := x12.same.none hq
   have nf : ¬ F2 q := fun z => by
    obtain ⟨o, e⟩ := x12.dom q z
    rw [hq] at e
    cases e
   have es' := es
   unfold setF at es'
   simp only [y01] at es'
   obtain ⟨⟨m, fs⟩, ho, _⟩ := es'
   obtain ⟨ao, vs, dx, h1, hx, hl, ha, _⟩ := z8g k r1 ho
   have hold := zi0 r x13 hnew
   obtain ⟨kp, r2⟩ := r1.setFld (s := .dic kvs) (v := .ref q) k ho h1 ha es ⟨q, _, rfl, z0d, RepD.kp x3.kp rd⟩ (fun d hd => by
    have : d = q := by simpa [fp0, rf] using hd
    subst this
    exact ⟨nf, r.fr _ hnew, hold i _ _ (z32 ho) h1, fun k u w _ ek _ hk => hold k u w ek hk⟩) hx hj
   refine ⟨_, h1, ao, C, dx, _, rfl, hx, k.cls, z8i k hj, ?_, kk σ F2 _ (x13.kp.trans kp) r2⟩
   have := k.few
   simp only [List.length_zip]
   omega
  next => cases e
 next => cases e
end
end D
end
section
namespace D
open PySem PySem.Spec PyProof.Rows L2
variable [Tbl]
open AutoSeq1 (wpAny_loadPart')
def oRep : T -> T -> Option T
 | .tuple xs, .int k => if 2 <= k /\ k < 1000 /\ xs ≠ [] /\ xs.length * k.toNat <= big then some (.tuple (y0h k.toNat xs).flatten) else none
 | .list xs, .int k => if 0 <= k /\ k < 1000 /\ xs.length * k.toNat <= big then some (.list (y0h k.toNat xs).flatten) else none
 | _, _ => none
theorem z99 : fillsNumberSlot (.type "tuple") "mul" = pure false :=
 PySem.fillsNumberSlot_seq (id := "tuple.__mul__") (r := some (.builtin "tuple.__rmul__")) F.slot_tuple_mul.lookup (by decide +kernel) F.slot_tuple_rmul.lookup (by decide +kernel)
theorem zdf : seqRepeat? (.type "tuple") = pure (some (.builtin "tuple.__mul__")) := by
 unfold seqRepeat?
 rw [PySem.seqSlot_of (T := "tuple") (name := "__mul__") (id := "tuple.__mul__") F.slot_tuple_mul.lookup (by decide +kernel), PySem.seqSlot_of (T := "tuple") (name := "__rmul__") (id := "tuple.__rmul__") F.slot_tuple_rmul.lookup (by decide +kernel)]
 rfl
theorem zgf (a : Int) (t : Tok) (l : Addr) (its : Array Value) (n : Nat) (dd : Option Addr) (sl : Array (Option Value)) : Meets (Builtin.«int.__rmul__» ⟨[.int a t, .ref l], []⟩) (fun _ R s => s.heap.get? l = some { cls := .type "tuple", dict := dd, data := .seq its n, slots := sl } /\ R (.ok (.ret Value.notImplemented)) s) :=
 .of_wp fun prog w A R s h => by
  obtain ⟨hp, g, d, tk, os⟩ := s
  obtain ⟨hl, h⟩ := h
  wp_walk
  exact ⟨_, rfl, h⟩
theorem ziz (l : Addr) (its : Array Value) (n : Nat) (dd : Option Addr) (sl : Array (Option Value)) (k : Int) (t : Tok) (h1 : 2 <= k) (h2 : k < 1000) (hne : its.isEmpty = false) (hz : its.size * k.toNat <= y0k) :
  Meets (Builtin.«tuple.__mul__» ⟨[.ref l, .int k t], []⟩) (fun _ R s => s.heap.get? l = some { cls := .type "tuple", dict := dd, data := .seq its n, slots := sl } /\
   R (.ok (.ret (.ref s.heap.objs.size))) { s with heap := s.heap.push { cls := .type "tuple", data := .seq ((y0h k.toNat its).foldl (· ++ ·) #[]) } }) :=
 .of_wp fun prog w A R s h => by
  obtain ⟨hp, g, d, tk, os⟩ := s
  obtain ⟨hl, h⟩ := h
  have c1 : ¬ (decide (k < -(2 ^ 63)) || decide (k >= 2 ^ 63)) = true := by simp; omega
  have c2 : ¬ (its.isEmpty || k == 1) = true := by simp [hne]; omega
  have c3 : ¬ (decide (k <= 0) || its.isEmpty) = true := by simp [hne]; omega
  wp_walk using wpAny_loadPart' hl
  have hzk : (its.size : Int) * k = ((its.size * k.toNat : Nat) : Int) := by
   have : (k.toNat : Int) = k := Int.toNat_of_nonneg (by omega)
   rw [<- this]
   push_cast
   simp
  have c4 : ¬ ((its.size : Int) * k > (2 ^ 63 - 1) / 8) := by
   rw [hzk]
   rw [sizeLine_eq] at hz
   omega
  have c5 : ¬ Builtin.Tuple.tupleTooMany ((its.size : Int) * k) = true := by
   unfold Builtin.Tuple.tupleTooMany
   rw [hzk, decide_eq_true_iff]
   omega
  rw [if_neg c1]
  wp_walk using wpAny_loadPart' hl
  rw [if_neg c2, if_neg c3, if_neg c4, if_neg c5]
  unfold y15
  refine y02 (wpAny_newObj_type (y06 ⟨_, rfl, h⟩) ?_)
  have e := z8m its.toList k.toNat []
  rw [List.nil_append] at e
  show (List.foldl _ #[] (y0h k.toNat its)).size <= y0k
  have e' : List.foldl (fun x1 x2 => x1 ++ x2) #[] (y0h k.toNat its) = (y0h k.toNat its.toList).flatten.toArray := by simpa using e
  rw [e', y0i, zgx, y27, Nat.mul_comm]
  exact hz
section
variable {X : Cx} {a b : Expr} {f g : Fe} {pos : Pos}
theorem zpk : OpR X (binaryOp .Mult) (fun x y H Q => ∃ a k xs, x = .ref a /\ y = .int k /\ SqT X.K H a xs /\ xs ≠ [] /\ 2 <= k /\ k < 1000 /\ xs.length * k.toNat <= y0k /\ ∀ p, H p = none -> Q (.ref p) (upd H p (.tup (y0h k.toNat xs).flatten))) := by
 intro pins s σ H x y v u Q I rx ry h
 obtain ⟨l, k, xs, rfl, rfl, hH, hne, h1, h2, hz, q⟩ := h
 cases rx
 obtain ⟨t, rfl⟩ := ry
 obtain ⟨its, r, pl, _⟩ := I.tuple hH
 have hl := r.length
 obtain ⟨⟨cls, dd, data, sl⟩, ho, hc, n, hd⟩ := id pl
 simp only at hc hd
 subst hc hd
 have hem : its.toArray.isEmpty = false := by
  cases its with
  | nil =>
   cases xs with
   | nil => exact absurd rfl hne
   | cons x xs => simp at hl
  | cons => rfl
 refine wpAny_binaryOp_repeat_ref (T := "tuple") (U := "int") (by decide) ⟨_, ho, rfl⟩ (fun s' => typeIs_int s' k t) z99 F.fills_int_mul F.slot_int_rmul zdf F.slot_int_index.lookup
  (call_meets F.slot_int_rmul (typeIs_int s k t) F.entry_int_rmul (F.args_int_rmul_2 _ _) (zgf k t l its.toArray n dd sl)
   ⟨ho, rfl, ⟨_, ho, rfl⟩, call_meets F.slot_tuple_mul ⟨_, ho, rfl⟩ F.entry_tuple_mul (F.args_tuple_mul_2 _ _) (ziz l its.toArray n dd sl k t h1 h2 hem (by rw [y0i, <- hl]; exact hz)) ⟨ho, ?_⟩⟩)
 have e : List.foldl (fun x1 x2 => x1 ++ x2) #[] (y0h k.toNat its.toArray) = (y0h k.toNat its).flatten.toArray := by simpa using z8m its k.toNat []
 have hz2 : (y0h k.toNat xs).flatten.length <= y0k := by rw [zgx, Nat.mul_comm]; exact hz
 refine ⟨.ref s.heap.objs.size, upd H s.heap.objs.size (.tup (y0h k.toNat xs).flatten), I.laid (t' := s.toks) (fun b u e => y03 _ e) (y0p _) ⟨hz2, _, r.rep k.toNat, ⟨_, y0m _ rfl, rfl, 0, ?_⟩⟩, rfl, q _ I.fresh⟩
 exact congrArg (fun z => Data.seq z 0) e
theorem zpl : OpR X (binaryOp .Mult) (fun x y H Q => ∃ l k xs, x = .ref l /\ y = .int k /\ Rd H l (.lst xs) /\ 0 <= k /\ k < 1000 /\ xs.length * k.toNat <= y0k /\ ∀ p, H p = none -> Q (.ref p) (upd H p (.lst (y0h k.toNat xs).flatten))) := by
 intro pins s σ H x y v u Q I rx ry h
 obtain ⟨l, k, xs, rfl, rfl, hH, h1, h2, hz, q⟩ := h
 cases rx
 obtain ⟨t, rfl⟩ := ry
 obtain ⟨z, its, n, r, hl, e⟩ := Inv.lstR I hH
 have hlen : its.toArray.size * k.toNat <= y0k := by rw [y0i, <- hl]; exact hz
 have hcap : ¬ its.toArray.size * k.toNat > (2 ^ 63 - 1) / 8 := by
  have : (y0k : Nat) <= (2 ^ 63 - 1) / 8 := by decide
  omega
 have hfit : ¬ (!Builtin.List.listFitsIndex k) = true := by rw [fitsIndex_both (by omega) (by omega)]; exact y2b
 have hlong : ¬ Builtin.List.listTooLong (its.toArray.size * k.toNat) = true := by rw [zn1 hlen]; exact y2b
 have f0 : ∀ m : Nat, List.foldl (fun x1 x2 => x1 ++ x2) #[] (y0h m its.toArray) = (y0h m its).flatten.toArray := fun m => by simpa using z8m its m []
 have hnew : List.foldl (fun x1 x2 => x1 ++ x2) #[] (y0h (if its.toArray.isEmpty = true then 0 else k.toNat) its.toArray) = (y0h k.toNat its).flatten.toArray := by
  rw [f0]
  cases its with
  | nil => simp
  | cons a r' => rw [if_neg (by simp)]
 refine wpAny_binaryOp_repeat_ref (T := "list") (U := "int") (by decide) ⟨_, e, rfl⟩ (fun s' => typeIs_int s' k t) noFill_list_mul F.fills_int_mul F.slot_int_rmul repeat_list F.slot_int_index.lookup
  (call_meets F.slot_int_rmul (typeIs_int s k t) F.entry_int_rmul (F.args_int_rmul_2 _ _) (int___rmul___int_list k t l its.toArray n) ⟨e, rfl, ⟨_, e, rfl⟩, call_meets F.slot_list_mul ⟨_, e, rfl⟩ F.entry_list_mul (F.args_list_mul_2 _ _) (AutoListH.list___mul___list_int_3 l its.toArray n k t hfit hcap hlong) ⟨e, ?_⟩⟩)
 rw [hnew]
 exact ⟨.ref _, _, I.lnew (t' := s.toks) (r.rep k.toNat) (by rw [zgx, Nat.mul_comm]; exact hz), rfl, q _ I.fresh⟩
theorem RepL.rep {K : y00} {F : Addr -> Prop} {H : Hp} {ts : List T} {vs : List V} (h : RepL K F H ts vs) : ∀ k : Nat, RepL K F H (y0h k ts).flatten (y0h k vs).flatten
 | 0 => RepL.nil
 | k + 1 => by
  rw [y1y, y1y, y2h, y2h]
  exact h.append (RepL.rep h k)
theorem zsq (ha : PEr X a f) (hb : PEr X b g) : PEv X (.BinOp a .Mult b pos) (op2 oRep f g) := z10 (zil (zpk.or zpl) ha hb) (z5x (by
 intro O F H x y t vx vy Q d rx ry e k
 unfold oRep at e
 split at e
 next xs n =>
  split at e
  next hz =>
   cases e
   obtain ⟨ax, vs, rfl, hs, hr⟩ := rx.tup
   rw [ry.int]
   refine .inl ⟨ax, _, vs, rfl, rfl, hs, fun z => ?_, hz.1, hz.2.1, by rw [z86, <- hr.length]; exact hz.2.2.2, fun p hp => ?_⟩
   ·subst z
    exact hz.2.2.1 (List.eq_nil_of_length_eq_zero (by rw [hr.length]; rfl))
   ·have x1 := Ext.laid (o := .tup (y0h n.toNat vs).flatten) d hp
    refine k _ F _ x1 ?_
    simp only [Rep]
    exact ⟨p, _, rfl, SqT.of z0d, (hr.rep _).ext x1⟩
  next => cases e
 next xs n =>
  split at e
  next hz =>
   cases e
   obtain ⟨ax, vs, rfl, hs, hr⟩ := rx.lst
   rw [ry.int]
   refine .inr ⟨ax, _, vs, rfl, rfl, hs, hz.1, hz.2.1, by rw [z86, <- hr.length]; exact hz.2.2, fun p hp => ?_⟩
   have x1 := Ext.laidF (o := .lst (y0h n.toNat vs).flatten) d hp
   refine k _ _ _ x1 ?_
   simp only [Rep]
   exact ⟨p, _, rfl, .inr rfl, .inl z0d, (hr.rep _).ext x1⟩
  next => cases e
 ·cases e))
end
end D
end
section
namespace D
open PySem PySem.Spec PyProof.Rows L2
variable [Tbl]
section
variable {X : Cx} {a b c : Expr} {f g h : Fe} {pos : Pos}
end
section
variable {X : Cx} {c C i j : Nat} {ns : List Str} {f : Str} {o : Expr} {pos apos : Pos}
end
end D
end
section
namespace D
open PySem PySem.Spec PyProof.Rows L2
abbrev t0 : Tbl := ⟨[], fun _ => [], fun _ => none⟩
def z12 (ns : List Int) : T := .list (ns.map .int)
def noL (K : y00) : Bool := K.all fun p => match p.2.cls with
 | .type t => t != "list"
 | _ => true
theorem zb2 {α β : Type} [BEq α] [LawfulBEq α] {a : α} {b : β} : ∀ {l : List (α × β)}, l.lookup a = some b -> (a, b) ∈ l
  | [], h => by cases h
  | (x, y) :: l, h => by
    rw [y1i] at h
    split at h
    next q =>
      cases h
      have : a = x := by simpa using q
      subst this
      simp
    next => exact y05 _ (zb2 h)
theorem zju {K : y00} {H : Hp} {a : Addr} {ns : List Int} {d : List T -> Option T} (hL : noL K = true) (hd : d [z12 ns] = some (.bool true)) (hS : SqL K H a (ns.map V.int)) : @spT t0 K 1 d [.ref a] H (fun v _ => v = .bl true) fun _ _ _ => False := by
 letI := t0
 rcases hS with hS | ⟨o, its, n, hk, hc, _⟩
 ·refine ⟨rfl, fun b => b = a, [z12 ns], .bool true, ⟨?_, fun p hp => by cases hp⟩, RepL.cons ?_ RepL.nil, hd, fun v F' H' x r => by simpa [Rep] using r⟩
  ·rintro b rfl
   rcases hS with q | ⟨u, q⟩
   ·exact ⟨_, q⟩
   ·exact ⟨_, q⟩
  ·simp only [z12, Rep]
   exact ⟨a, _, rfl, rfl, hS, zef ns⟩
 ·have := List.all_eq_true.mp hL _ (zb2 hk)
  simp [hc] at this
theorem zq8 {t : Tbl} (ht : t.tb = []) {P : y0r} {w : World} {K : y00} {mg : Str -> Option Value} {base : Heap} {k n : Nat} {f : Addr} {fd : y0b} {ps : List Str} {d : List T -> Option T} (F : FnOk P w K mg base CX0 k f fd ps (@spT t K n d)) : FnOk P w K mg base CX0 k f fd ps (@spT t0 K n d) := by
 have d1 : ∀ {F : Addr -> Prop} {H : Hp}, @Dom t0 F H -> @Dom t F H := fun {F H} h => @Dom.mk t F H (@Dom.dm t0 F H h) (fun p hp => by rw [ht] at hp; cases hp)
 have d2 : ∀ {F : Addr -> Prop} {H : Hp}, @Dom t F H -> @Dom t0 F H := fun {F H} h => @Dom.mk t0 F H (@Dom.dm t F H h) (fun p hp => by cases hp)
 refine F.imp fun vs H Q E h => ?_
 obtain ⟨hl, F, ts, r, dom, q, e, kq⟩ := h
 exact ⟨hl, F, ts, r, d1 dom, q, e, fun v F' H' x rv => kq v F' H' (@Ext.mk t0 F H F' H' (@Ext.same t F H F' H' x) (@Ext.sub t F H F' H' x) (@Ext.new t F H F' H' x) (d2 (@Ext.dom t F H F' H' x))) rv⟩
end D
end
section
namespace D
open PySem PySem.Spec PyProof.Rows L2
section
variable [Tbl]
variable {X : Cx} {e : Expr} {es : List Expr} {fs : List Fe} {p pos : Pos}
end
end D
end
section
namespace D
open PySem PySem.Spec PyProof.Rows L2
variable [Tbl]
open AutoSeq1 (wpAny_loadPart')
section
variable {X : Cx} {a b : Expr} {f g : Fe} {pos : Pos}
end
end D
end
section
namespace D
open PySem PySem.Spec PyProof.Rows L2
variable [Tbl]
section
variable {X : Cx} {es : List Expr} {k : Nat} {p pos p2 : Pos} {a b : Expr} {f g : Fe}
end
end D
end
section
namespace D
open PySem PySem.Spec PyProof.Rows L2
section
variable [Tbl]
variable {X : Cx} {a b : Expr} {f g : Fe} {pos : Pos}
end
end D
end
section
namespace D
open PySem PySem.Spec PyProof.Rows L2
section
variable [Tbl]
variable {X : Cx} {e : Expr} {f : Fe} {pos : Pos}
end
end D
end
section
namespace D
open PySem PySem.Spec PyProof.Rows L2
variable [Tbl]
section
variable {X : Cx} {a b c : Expr} {f g h : Fe} {pos : Pos}
end
section
variable {X : Cx} {pos : Pos}
end
section
variable {X : Cx} {a : Expr} {f : Fe} {p px pos pos2 : Pos}
end
end D
end
section
namespace D
open PySem PySem.Spec PyProof.Rows L2
section
variable {X : Cx} {pins : List (Addr × Obj)} {σ : L2.St} {H : Hp} {s : y04} {a : Addr} {d : V} {r : Value} {A : Around} {E : Value -> y04 -> Prop}
end
section
variable {X : Cx} {o e f : Expr} {apos cpos : Pos} {td ty tx : TE}
end
variable [Tbl]
section
variable {X : Cx} {a b : Expr} {f g : Fe} {x : Str} {px apos cpos pos : Pos}
end
section
variable {X : Cx} {a b : Expr} {f g : Fe} {p p2 pos pos2 : Pos}
variable {x : Str} {px dpos : Pos}
end
end D
end
section
namespace D
open PySem PySem.Spec PyProof.Rows L2
variable [Tbl]
open PySem.W (kas_ask kas_sort kat_run kat_snds kat_lt kat_kind KatTups KatLex KatGo kas_item KasT)
def hT (x : Str × List T) : T := .tuple (.str x.1 :: x.2)
section
variable {prog : y0r} {w : World} {A : Around} {s : y04}
end
section
variable {X : Cx}
variable {e : Expr} {es : List Expr} {fs : List Fe} {p pos : Pos}
end
section
variable {X : Cx} {o e : Expr} {f g : Fe} {apos cpos : Pos}
end
section
variable {X : Cx} {a b : Expr} {f g : Fe} {pos : Pos}
end
end D
end
section
namespace D
open PySem PySem.Spec PyProof.Rows L2
theorem zf2 : ∀ (f n r : Nat), minRun' f n r <= n + r
 | 0, n, r => y0p _
 | f + 1, n, r => by
  rw [minRun'_succ]
  split
  ·exact y0p _
  ·have := zf2 f (n / 2) (max r (n % 2))
   omega
section
variable {prog : y0r} {w : World} {A : Around} {E : Value -> y04 -> Prop} {s : y04} {ar : Array Keyed}
theorem zjb {st : SortSt} {R : Option Nat -> SortSt -> Prop} (ik : IntKeys ar) (sb : SBase ar st) (one : 1 <= ar.size) (up : SortedTo (arrOf st) ar.size) (fin : R (some ar.size) st) : wpS (model prog w) A E s (countRun' 0 ar.size) R st := by
 rw [countRun0_eq]
 refine wpS_bind (wpS_ascLoop ik (y0p _) (y0p 1) one sb (fun i j h1 h2 => up i j h1 (by omega)) fun n g1 g2 _ hor => ?_)
 have hn : n = ar.size := by
  rcases hor with q | q
  ·exact q
  ·refine Decidable.byContradiction fun ne => ?_
   have := up (n - 1) n (by omega) (by omega)
   omega
 subst hn
 dsimp only
 rw [if_pos (beq_self_eq_true _)]
 exact wpS_pure fin
def Rz (ar : Array Keyed) (st st' : SortSt) : Prop := arrOf st' = arrOf st /\ failedOf st' = none /\ pendingOf st' = #[(0, ar.size, 0)]
theorem zk5 {st : SortSt} {R : Unit -> SortSt -> Prop} (ik : IntKeys ar) (sb : SBase ar st) (two : 2 <= ar.size) (up : SortedTo (arrOf st) ar.size)
  (fin : ∀ st', arrOf st' = arrOf st -> failedOf st' = none -> R () st') : wpS (model prog w) A E s sortRuns' R st := by
 have hmr := zf2 ar.size ar.size 0
 rw [sortRuns'_eq]
 refine wpS_bind (wpS_get ?_)
 dsimp only
 rw [sb.size]
 refine wpS_bind (wpS_mono (wpS_forRange (I := fun x c st' => (x = 0 /\ c = (none, 0) /\ st' = st) \/ (1 <= x /\ c = (none, ar.size) /\ Rz ar st st')) (Q := fun c st' => c = (none, ar.size) /\ Rz ar st st') ?turn ?done (.inl ⟨rfl, rfl, rfl⟩)) ?then_)
 case done =>
  rintro c st' (⟨g, _, _⟩ | ⟨_, g, z⟩)
  ·omega
  ·exact ⟨g, z⟩
 case turn =>
  rintro x c st' _ hx (⟨rfl, rfl, rfl⟩ | ⟨g, rfl, z⟩)
  ·dsimp only
   rw [if_neg (show ¬ 0 >= ar.size by omega), Nat.sub_zero]
   refine wpS_bind (zjb ik sb (by omega) up ?_)
   dsimp only
   rw [if_neg (show ¬ ar.size < minRun' ar.size ar.size 0 by omega)]
   refine wpS_bind (wpS_get ?_)
   rw [show (pendingOf st').back? = none by rw [sb.pend]; rfl]
   dsimp only
   refine wpS_bind (wpS_modify (wpS_pure (.inr ⟨by omega, by simp, rfl, sb.failed, ?_⟩)))
   show (pendingOf st').push _ = _
   rw [sb.pend]
   rfl
  ·dsimp only
   rw [if_pos (show ar.size >= ar.size from y0p _)]
   exact wpS_pure ⟨rfl, z⟩
 case then_ =>
  rintro c st' ⟨rfl, z⟩
  dsimp only
  refine wpS_bind (wpS_mono (wpS_forRange (I := fun _ c st2 => c = (none, ()) /\ st2 = st') (Q := fun c st2 => c = (none, ()) /\ st2 = st') ?_ (fun _ _ g => g) ⟨rfl, rfl⟩) ?_)
  ·rintro x c st2 _ _ ⟨rfl, rfl⟩
   refine wpS_bind (wpS_get ?_)
   rw [if_pos (show (pendingOf st2).size <= 1 by rw [z.2.2]; exact y0p 1)]
   exact wpS_pure ⟨rfl, rfl⟩
  ·rintro c st2 ⟨rfl, rfl⟩
   exact wpS_pure (fin _ z.1 z.2.1)
theorem zs5 {us : List Value} {ns : List Int} (hI : IntsAre us ns) (pw : ns.Pairwise (· <= ·)) : SortedTo (pairsOf us) (pairsOf us).size := by
 intro i j hij hj
 have hl := hI.length
 rw [pairsOf_size] at hj
 have hj' : j < (pairsOf us).size := by rw [pairsOf_size]; exact hj
 have hi' : i < (pairsOf us).size := by omega
 have key : ∀ k (hk : k < (pairsOf us).size), K (pairsOf us) k = ns.getD k 0 := fun k hk => by
  rw [K_eq hk]
  have hk' : k < us.length := by rw [pairsOf_size] at hk; exact hk
  have e : (pairsOf us)[k].1 = us[k] := by simp [pairsOf]
  rw [e, <- hI.nums]
  simp [hk']
 rw [key i hi', key j hj']
 rcases Nat.lt_or_eq_of_le hij with q | q
 ·have := List.pairwise_iff_getElem.mp pw i j (by omega) (by omega) q
  simpa [show i < ns.length by omega, show j < ns.length by omega] using this
 ·subst q
  exact Int.le_refl _
theorem zek (us : List Value) : (pairsOf us).map (·.2) = us.toArray := by
 refine Array.ext' ?_
 rw [Array.toList_map, pairsOf_toList]
 exact List.map_snd_zip (y0p _)
theorem zjw {a : Addr} {us : List Value} {ns : List Int} {n : Nat} {P : Fin -> y04 -> Prop} (hL : s.heap.get? a = some (seqObj "list" us.toArray n)) (hI : IntsAre us ns) (pw : ns.Pairwise (· <= ·)) (hz : us.length <= 100000)
  (fin : P (.done (.ret .none)) { s with heap := sortedHeap s.heap a us us.toArray }) :
  y0v (model prog w) A (Builtin.«list.sort» ⟨[.ref a], []⟩) P E s := by
 obtain ⟨c1, hL1⟩ : ∃ c1, (s.heap.update a (Obj.mapSeq fun _ => (#[] : Array Value))).get? a = some (seqObj "list" #[] c1) := ⟨_, get?_update_seq hL (fun _ => #[])⟩
 have up : ∀ {b : Addr} {o : Obj}, (s.heap.update a (Obj.mapSeq fun _ => (#[] : Array Value))).get? b = some o -> (((s.heap.update a (Obj.mapSeq fun _ => (#[] : Array Value))).push (seqObj "tuple" us.toArray 0)).push (seqObj "list" #[] 0)).get? b = some o := fun e => y03 _ (y03 _ e)
 have hL2 := up hL1
 have hsize : us.toArray.size = us.length := y0i
 have hline : us.length <= y0k := by rw [sizeLine_eq]; omega
 rw [list_sort_plain]
 refine y02 (listItems_at hL rfl (y02 (listUpdate_at hL rfl ?_ (by rw [hsize]; exact hline) (y2c _))))
 refine y02 (seqEpoch_at hL1 rfl (y02 (wpAny_newTuple ?_ (by show us.length <= _; exact hline))))
 refine y02 (wpAny_newList (wpAny_holding ?_) (y2c _))
 show y0v _ _ _ P E { s with heap := ((s.heap.update a (Obj.mapSeq fun _ => (#[] : Array Value))).push (seqObj "tuple" us.toArray 0)).push (seqObj "list" #[] 0) }
 dsimp only
 have upd2 : us.toArray.size <= y0k + 1 := by rw [hsize]; exact Nat.le_succ_of_le hline
 by_cases few : us.toArray.size < 2
 ·rw [if_pos few, if_pos few]
  refine y02 (y06 ?_)
  rw [StateT.run_pure]
  refine y02 (y06 ?_)
  dsimp only
  rw [show (arrOf (SortSt.mk' general' (us.toArray.zip us.toArray) #[] 7 none)).map (·.2) = us.toArray from zek us]
  refine y02 (seqEpoch_at hL2 rfl (y02 (listUpdate_at hL2 rfl ?_ (y2c _) upd2)))
  simp only [bne_self_eq_false, y20, if_false]
  exact y06 fin
 ·rw [if_neg few, if_neg few]
  have two : 2 <= us.length := by omega
  have kk : keyKind' us.toArray = pure oneType' := by
   match us, hI, two with
   | [], _, t => simp at t
   | [_], _, t => simp at t
   | x :: y :: r, hI, _ => exact keyKind_ints hI
  rw [kk]
  refine y02 (y06 ?_)
  refine y02 (y1g (zk5 (ar := pairsOf us) (st := SortSt.mk' oneType' (us.toArray.zip us.toArray) #[] 7 none) (R := fun _ st' => arrOf st' = pairsOf us /\ failedOf st' = none) hI.intKeys ⟨Array.Perm.refl _, rfl, rfl, rfl⟩ (by rw [pairsOf_size]; exact two) (zs5 hI pw) fun st' g1 g2 => ⟨g1, g2⟩) (fun r s' hr => ?_) fun _ _ x => x)
  obtain ⟨⟨⟩, st'⟩ := r
  obtain ⟨rfl, r1, r2⟩ := hr
  dsimp only at r1 r2 ⊢
  rw [r1, r2, zek]
  refine y02 (seqEpoch_at hL2 rfl (y02 (listUpdate_at hL2 rfl ?_ (y2c _) upd2)))
  simp only [bne_self_eq_false, y20, if_false]
  exact y06 fin
end
variable [Tbl]
section
variable {X : Cx}
theorem zfo (hc : X.calm = true) : z90 X (.builtin "sorted") (fun xs H Q => ∃ (p : Addr) (ns : List Int), xs = [.ref p] /\ SqL X.K H p (ns.map V.int) /\ ns.Pairwise (· <= ·) /\ ns.length <= 100000 /\ ∀ l, H l = none -> Q (.ref l) (upd H l (.lst (ns.map V.int)))) := by
 intro pins s σ H xs us Q I r h
 obtain ⟨p, ns, rfl, hq, pw, hz, q⟩ := h
 obtain ⟨u, rfl, rx⟩ := zg7 r
 cases rx
 obtain ⟨its, r', pl, hz'⟩ := I.list hq
 have hI : IntsAre its ns := by simpa using zj5 r'
 have hl := hI.length
 refine Calls.call_function_entry kind_sorted plain_sorted entry_sorted (args_sorted1 _) ?_
 unfold Builtin.«sorted»
 refine y02 (m := checkCount "sorted" 1 1 _) (y06 ?_)
 refine y02 (collect_list pl.isList ?_ (by rw [sizeLine_eq]; omega))
 refine y02 (wpAny_newList ?_ (by rw [sizeLine_eq]; omega))
 have kp1 : ∀ b o, s.heap.get? b = some o -> ((s.heap.push (seqObj "list" #[] 0)).update s.heap.objs.size (Obj.mapSeq (· ++ its.toArray))).get? b = some o := fun b o e => (Heap.get?_update_other _ _ (y18 (y0c e))).trans (y03 _ e)
 have sz1 : s.heap.objs.size <= ((s.heap.push (seqObj "list" #[] 0)).update s.heap.objs.size (Obj.mapSeq (· ++ its.toArray))).objs.size := by rw [Heap.size_update, y1a]; exact Nat.le_succ _
 generalize (s.heap.push (seqObj "list" #[] 0)).update s.heap.objs.size (Obj.mapSeq (· ++ its.toArray)) = h1 at kp1 sz1
 have hN : (h1.push (seqObj "list" its.toArray 0)).get? h1.objs.size = some (seqObj "list" its.toArray 0) := y0m _ rfl
 refine y02 (wpAny_holding (wpAny_call_entry slot_list_sort ⟨_, hN, rfl⟩ entry_list_sort (zjw (s := { s with heap := h1.push (seqObj "list" its.toArray 0) }) hN hI pw (by omega) ⟨_, rfl, ?_⟩) (args_list_sort _)))
 obtain ⟨⟨e, he⟩, hk⟩ := z85 (out := its.toArray) hN
 refine y06 ⟨_, rfl, ?_⟩
 exact ⟨.ref h1.objs.size, _, z8l (s := s) (t' := s.toks) (d' := s.drawn) I (o := .lst (ns.map V.int)) (fun b o q => hk b o (y10 (y0c (kp1 b o q))) (y03 _ (kp1 b o q))) sz1 ⟨by rw [y16, sizeLine_eq]; omega, _, e, r', he⟩, rfl, q _ (I.hok.fresh sz1)⟩
def za6 : List T -> Option T
 | [.list xs] => (zba xs).bind fun ns => if ns.Pairwise (· <= ·) /\ ns.length <= 100000 then some (.list xs) else none
 | _ => none
variable {e : Expr} {es : List Expr} {fs : List Fe} {p pos : Pos}
theorem zka (hc : X.calm = true) (hm : X.mg "sorted" = none) (ha : PAr X (e :: es) fs) (hg : Gl X "sorted" := by rfl) (he : y0a (e :: es) X.env = (false, eval e X.env) :: y0a es X.env := by rfl) (hpl : (backTo pos (y0a es X.env)).any (·.1) = false := by rfl) :
  PEv X (.Call (.Name "sorted" p) (e :: es) [] pos) (opN za6 fs) := z10 (za4 (zfo hc) hg hm (by decide +kernel) ha (he := he) (hpl := hpl)) (zar (by
 intro O F H ts t vs Q d q e k
 unfold za6 at e
 split at e
 ·simp only [y01] at e
  obtain ⟨ns, e1, e2⟩ := e
  split at e2
  next hc2 =>
   cases e2
   have hxs := zf9 e1
   subst hxs
   cases q with
   | cons q1 q2 =>
    cases q2
    obtain ⟨l0, ws, rfl, hl, hr⟩ := q1.lst
    have hw := zcg hr
    subst hw
    refine ⟨l0, ns, rfl, .inl hl, hc2.1, hc2.2, fun l hl1 => ?_⟩
    have x1 := Ext.laidF (o := .lst (ns.map V.int)) d hl1
    refine k _ _ _ x1 ?_
    simp only [Rep]
    exact ⟨l, _, rfl, .inr rfl, .inl z0d, hr.ext x1⟩
  next => cases e2
 ·cases e))
end
end D
end
section
namespace Co
open D
def zfz : Fs :=
  (seq (for_ (z2m (op2 oIx (nm 0) (cst (.int 0)))) (gNm 2)
  (iff (tstB (op2 oEq (op2 oIx (nm 2) (cst (.int 0))) (nm 1))) (rtn (op2 oIx (nm 2) (cst (.int 1)))) skip))
  zgk)
def z51 : List T -> Option T := runF zfz 3
def zlz : Fs :=
  (seq (asg 1 (opN z3n [(comp 1 [] (z2m (op2 oIx (nm 0) (cst (.int 0)))) (gNm 0) (cstT true) (cst (.str "shut")))]))
  (seq (asg 2 (opN z3n [(comp 1 [] (z2m (op2 oIx (nm 0) (cst (.int 1)))) (gNm 0) (cstT true) (cst (.int 0)))]))
  (rtn (z0g [(cst (.str "off")), (cst (.int 0)), (cst .none), (nmV 1), (z0g []), (cst (.int 0)), (z0g []), (cst (.int 0)), (cst (.int 0)), (nmV 2)]))))
def z9e : List T -> Option T := runF zlz 3
def zg0 : Fs :=
  (seq (for_ (z2m (op2 oIx (nm 0) (cst (.int 1)))) (gNm 2)
  (iff (tstB (op2 oEq (op2 oIx (nm 2) (cst (.int 0))) (nm 1))) (rtn (nm 2)) skip))
  (rtn (cst .none)))
def z6v : List T -> Option T := runF zg0 3
def zcz : Fs :=
  (rtn (opN oMax [(op2 oSub (nm 0) (nm 1)), (cst (.int 0))]))
def z3y : List T -> Option T := runF zcz 2
def z5q : Fs :=
  (seq (asgF 0 0 0 (nmV 1))
  (seq (asgF 0 0 1 (op2 oIx (nm 2) (cst (.int 0))))
  (seq (asgF 0 0 2 (op2 oIx (nm 2) (cst (.int 1))))
  (seq (asgF 0 0 3 (op2 oIx (nm 2) (cst (.int 2))))
  (seq (zjm 0 0 4 (comp 1 [] (z2m (op2 oIx (nm 1) (cst (.int 0)))) (gNm 0) (cstT true) (op2 oIx (nm 0) (cst (.int 0)))) (op2 oIx (nm 2) (cst (.int 3))))
  (seq (z9o 0 0 5 (op1 zcl (op2 oIx (nm 2) (cst (.int 4)))))
  (seq (asgF 0 0 6 (op2 oIx (nm 2) (cst (.int 5))))
  (seq (z9o 0 0 7 (op1 zcl (op2 oIx (nm 2) (cst (.int 6)))))
  (seq (asgF 0 0 8 (op2 oIx (nm 2) (cst (.int 7))))
  (seq (asgF 0 0 9 (op2 oIx (nm 2) (cst (.int 8))))
  (seq (zjm 0 0 10 (comp 1 [] (z2m (op2 oIx (nm 1) (cst (.int 1)))) (gNm 0) (cstT true) (op2 oIx (nm 0) (cst (.int 0)))) (op2 oIx (nm 2) (cst (.int 9))))
  (seq (asgF 0 0 11 (cst (.int 0)))
  (z9o 0 0 12 (z3x []))))))))))))))
def z2f : List Sl -> Option (T × List Sl) := runM 0 0 z5q 3
def z7p : Fs :=
  (seq (asg 1 (zlm 0 0 4))
  (seq (asg 2 (opN z3n [(fld 0 0 5)]))
  (seq (asg 3 (opN z3n [(fld 0 0 7)]))
  (seq (asg 4 (zlm 0 0 10))
  (rtn (z0g [(fldV 0 0 1), (fldV 0 0 2), (fldV 0 0 3), (nmV 1), (nmV 2), (fldV 0 0 6), (nmV 3), (fldV 0 0 8), (fldV 0 0 9), (nmV 4)]))))))
def z33 : List Sl -> Option T := runR z7p 5
def z8v : Fs :=
  (appF 0 0 12 (z0g [(fldV 0 0 11), (nmV 1), (nmV 2)]))
def z06 : List Sl -> Option (T × List Sl) := runM 0 0 z8v 3
def z6f : Fs :=
  (asgF 0 0 6 (op2 oIx (op2 oIx (fld 0 0 0) (cst (.int 2))) (cst (.int 2))))
def z1k : List Sl -> Option (T × List Sl) := runM 0 0 z6f 1
def z5l : Fs :=
  (seq (exX (z1n 0 z1k 0 []))
  (iff (tstB (op2 (oIn true) (nm 1) (fld 0 0 7))) (seq (appF 0 0 7 (nmV 1))
  (exX (z1n 0 z06 0 [(cst (.str "alarm")), (nmV 1)]))) skip))
def z0i : List Sl -> Option (T × List Sl) := runM 0 0 z5l 2
def z37 : Fs :=
  (seq (iff (orT (tstB (op2 oNe (nm 2) (cst (.str "way")))) (tstB (op2 oLe (op2 oIx (op2 oIx (fld 0 0 0) (cst (.int 2))) (cst (.int 1))) (cst (.int 0))))) (seq (exX (z1n 0 z0i 0 [(nmV 1)]))
  zdd) skip)
  (seq (asgF 0 0 1 (cst (.str "coming")))
  (seq (asgF 0 0 2 (op2 oIx (op2 oIx (fld 0 0 0) (cst (.int 2))) (cst (.int 1))))
  (seq (asgF 0 0 3 (nmV 1))
  (exX (z1n 0 z06 0 [(cst (.str "coming")), (nmV 1)]))))))
def z1j : List Sl -> Option (T × List Sl) := runM 0 0 z37 3
def z6e : Fs :=
  (seq (asg 3 (opN z51 [(fldV 0 0 0), (nmV 1)]))
  (iff (tstB (op2 oEq (nm 3) (cst (.str "day")))) (exX (z1n 0 z0i 0 [(nmV 1)])) (iff (tstB (op2 oEq (fld 0 0 1) (cst (.str "off")))) (iff (tstB (op2 oEq (nm 2) (cst (.str "cut")))) (exX (z1n 0 z06 0 [(cst (.str "fault")), (nmV 1)])) skip) (iff (orT (tstB (op2 oEq (nm 2) (cst (.str "cut")))) (tstB (op2 oEq (nm 3) (cst (.str "once"))))) (exX (z1n 0 z0i 0 [(nmV 1)])) (iff (tstB (op2 oEq (fld 0 0 1) (cst (.str "on")))) (exX (z1n 0 z1j 0 [(nmV 1), (nmV 3)])) skip)))))
def z2n : List Sl -> Option (T × List Sl) := runM 0 0 z6e 4
def z8w : Fs :=
  (seq (asg 3 (fGet 0 0 4 (nm 1)))
  (seq (iff (tstB (op2 oEq (nm 2) (nm 3))) zdd skip)
  (seq (zei 0 0 4 (nm 1) (nmV 2))
  (iff (tstB (op2 oEq (nm 2) (cst (.str "shut")))) (iff (tstB (op2 oEq (nm 3) (cst (.str "cut")))) (exX (z1n 0 z06 0 [(cst (.str "mended")), (nmV 1)])) skip) (iff (tstB (op2 (oIn true) (nm 1) (fld 0 0 5))) (exX (z1n 0 z2n 0 [(nmV 1), (nmV 2)])) skip)))))
def z3p : List Sl -> Option (T × List Sl) := runM 0 0 z8w 4
def z3h : Fs :=
  (rtn (andV (op2 oNe (op2 oIx (nm 1) (cst (.int 3))) (cst (.int 0))) (op2 oGe (fGet 0 0 10 (op2 oIx (nm 1) (cst (.int 0)))) (op2 oIx (nm 1) (cst (.int 3))))))
def z1c : List Sl -> Option T := runR z3h 2
def z3f : Fs :=
  (seq (exX (z1n 0 z06 0 [(cst (.str "wrong")), (cst .none)]))
  (seq (augF 0 0 8 (cst (.int 1)))
  (iff (tstB (op2 oGe (fld 0 0 8) (cst (.int 3)))) (seq (asgF 0 0 8 (cst (.int 0)))
  (seq (asgF 0 0 9 (cst (.int 90)))
  (seq (exX (z1n 0 z1k 0 []))
  (exX (z1n 0 z06 0 [(cst (.str "attack")), (cst .none)]))))) skip)))
def z1a : List Sl -> Option (T × List Sl) := runM 0 0 z3f 1
def z0q : Fs :=
  (seq (iff (tstB (op2 oEq (nm 1) (cst (.str "unset")))) (rtn (cst (.bool false))) skip)
  (seq (iff (tstB (op2 oNe (fld 0 0 1) (cst (.str "off")))) (rtn (cst (.bool true))) skip)
  (seq (iff (tstB (op2 oEq (nm 1) (cst (.str "shunt")))) (rtn (orV (op2 oEq (opN z51 [(fldV 0 0 0), (nmV 2)]) (cst (.str "day"))) (op2 (oIn false) (nm 2) (fld 0 0 5)))) skip)
  (rtn (andV (op2 oEq (nm 1) (cst (.str "free"))) (op2 (oIn true) (nm 2) (fld 0 0 5)))))))
def z0e : List Sl -> Option T := runR z0q 3
def z59 : Fs :=
  (seq (asg 2 (comp 1 [1] (z2m (op2 oIx (fld 0 0 0) (cst (.int 0)))) (gNm 0) (tstB (op2 (oIn false) (op2 oIx (nm 0) (cst (.int 1))) (nm 1))) (op2 oIx (nm 0) (cst (.int 0)))))
  (rtn (comp 1 [0] (z2m (nmV 2)) (gNm 0) (andT (tstB (op2 oNe (fGet 0 1 4 (nm 0)) (cst (.str "shut")))) (tstB (op2 (oIn true) (nm 0) (fld 0 1 5)))) (nmV 0))))
def z0y : List Sl -> Option T := runR z59 3
def z3j : Fs :=
  (seq (asg 4 (ifE (tstB (op2 oEq (nm 2) (cst (.str "free")))) (cst (.str "shunt")) (nmV 2)))
  (seq (iff (tstB (op2 (oIn true) (nm 4) (op2 oIx (nm 1) (cst (.int 2))))) (rtn (z0g [(cst (.str "denied")), (op2 oIx (nm 1) (cst (.int 1)))])) skip)
  (seq (iff (tstB (z9y 0 z0e 0 [(nmV 2), (nmV 3)])) (rtn (z0g [(cst (.str "no")), (op2 oIx (nm 1) (cst (.int 1)))])) skip)
  (seq (asg 5 (z9y 0 z0y 0 [(cst (.tuple (z84 ["day", "once"])))]))
  (seq (iff (andT (tstB (op2 oEq (nm 2) (cst (.str "set")))) (tstL (nm 5))) (rtn (z0g [(cst (.str "open")), (op2 oIx (nm 5) (cst (.int 0)))])) skip)
  (rtn (cst .none)))))))
def z0z : List Sl -> Option T := runR z3j 6
def z4h : Fs :=
  (seq (asgF 0 0 1 (cst (.str "on")))
  (seq (asgF 0 0 2 (cst (.int 0)))
  (seq (exX (z1n 0 z06 0 [(cst (.str "on")), (cst .none)]))
  (for_ (z2m (z9y 0 z0y 0 [(cst (.tuple (z84 ["inner", "way"])))])) (gNm 1)
  (exX (z1n 0 z0i 0 [(nmV 1)]))))))
def z0p : List Sl -> Option (T × List Sl) := runM 0 0 z4h 2
def z57 : Fs :=
  (seq (z9o 0 0 7 (z3x []))
  (seq (asgF 0 0 6 (cst (.int 0)))
  (seq (asgF 0 0 1 (cst (.str "leaving")))
  (seq (asgF 0 0 2 (op2 oIx (op2 oIx (fld 0 0 0) (cst (.int 2))) (cst (.int 0))))
  (seq (exX (z1n 0 z06 0 [(cst (.str "set")), (nmV 1)]))
  (iff (tstB (op2 oLe (fld 0 0 2) (cst (.int 0)))) (exX (z1n 0 z0p 0 [])) skip))))))
def z2e : List Sl -> Option (T × List Sl) := runM 0 0 z57 2
def z5p : Fs :=
  (seq (asgF 0 0 1 (cst (.str "off")))
  (seq (asgF 0 0 2 (cst (.int 0)))
  (seq (asgF 0 0 6 (cst (.int 0)))
  (seq (asgF 0 0 3 (cst .none))
  (seq (z9o 0 0 5 (z3x []))
  (exX (z1n 0 z06 0 [(cst (.str "unset")), (nmV 1)])))))))
def z2d : List Sl -> Option (T × List Sl) := runM 0 0 z5p 2
def z2p : Fs :=
  (iff (tstB (op2 oEq (nm 2) (cst (.str "set")))) (exX (z1n 0 z2e 0 [(nmV 1)])) (iff (tstB (op2 oEq (nm 2) (cst (.str "unset")))) (exX (z1n 0 z2d 0 [(nmV 1)])) (iff (tstB (op2 oEq (nm 2) (cst (.str "shunt")))) (seq (z9o 0 0 5 (op1 za7 (op2 oAdd (fld 0 0 5) (z3x [(nmV 3)]))))
  (exX (z1n 0 z06 0 [(cst (.str "shunt")), (nmV 3)]))) (seq (rmF 0 0 5 (nmV 3))
  (exX (z1n 0 z06 0 [(cst (.str "free")), (nmV 3)]))))))
def z17 : List Sl -> Option (T × List Sl) := runM 0 0 z2p 4
def z3g : Fs :=
  (seq (asg 4 (z9y 0 z0z 0 [(nmV 1), (nmV 2), (nmV 3)]))
  (iff (tstB (op1 oIsN (nm 4))) (seq (zg1 0 0 10 (op2 oIx (nm 1) (cst (.int 0))) (cst (.int 1)))
  (exX (z1n 0 z17 0 [(op2 oIx (nm 1) (cst (.int 1))), (nmV 2), (nmV 3)]))) (exX (z1n 0 z06 0 [(op2 oIx (nm 4) (cst (.int 0))), (op2 oIx (nm 4) (cst (.int 1)))]))))
def z1b : List Sl -> Option (T × List Sl) := runM 0 0 z3g 5
def z3r : Fs :=
  (seq (asg 4 (opN z6v [(fldV 0 0 0), (nmV 1)]))
  (iff (tstB (op2 oGt (fld 0 0 9) (cst (.int 0)))) (exX (z1n 0 z06 0 [(cst (.str "locked")), (cst .none)])) (iff (orT (tstB (op1 oIsN (nm 4))) (tstB (z9y 0 z1c 0 [(nmV 4)]))) (exX (z1n 0 z1a 0 [])) (seq (asgF 0 0 8 (cst (.int 0)))
  (exX (z1n 0 z1b 0 [(nmV 4), (nmV 2), (nmV 3)]))))))
def z20 : List Sl -> Option (T × List Sl) := runM 0 0 z3r 5
def z58 : Fs :=
  (seq (augF 0 0 11 (nmV 1))
  (seq (asgF 0 0 9 (opN z3y [(fldV 0 0 9), (nmV 1)]))
  (seq (asgF 0 0 6 (opN z3y [(fldV 0 0 6), (nmV 1)]))
  (asgF 0 0 2 (opN z3y [(fldV 0 0 2), (nmV 1)])))))
def z0x : List Sl -> Option (T × List Sl) := runM 0 0 z58 2
def z56 : Fs :=
  (seq (asg 1 (fldV 0 0 3))
  (seq (asgF 0 0 1 (cst (.str "on")))
  (seq (asgF 0 0 3 (cst .none))
  (exX (z1n 0 z0i 0 [(nmV 1)])))))
def z1w : List Sl -> Option (T × List Sl) := runM 0 0 z56 2
def z41 : Fs :=
  (iff (tstB (op2 oEq (fld 0 0 1) (cst (.str "leaving")))) (exX (z1n 0 z0p 0 [])) (exX (z1n 0 z1w 0 [])))
def z1q : List Sl -> Option (T × List Sl) := runM 0 0 z41 1
def z35 : Fs :=
  (seq (iff (tstB (op2 oLt (nm 1) (cst (.int 1)))) zdd skip)
  (iff (andT (tstB (op2 (oIn false) (fld 0 0 1) (z0g [(cst (.str "leaving")), (cst (.str "coming"))]))) (tstB (op2 oLe (fld 0 0 2) (nm 1)))) (seq (asg 2 (op2 oSub (nm 1) (fld 0 0 2)))
  (seq (exX (z1n 0 z0x 0 [(fldV 0 0 2)]))
  (seq (exX (z1n 0 z1q 0 []))
  (exX (z1n 0 z0x 0 [(nmV 2)]))))) (exX (z1n 0 z0x 0 [(nmV 1)]))))
def z1p : List Sl -> Option (T × List Sl) := runM 0 0 z35 3
def z3q : Fs :=
  (iff (tstB (op2 oEq (op2 oIx (nm 1) (cst (.int 0))) (cst (.str "line")))) (exX (z1n 0 z3p 0 [(op2 oIx (nm 1) (cst (.int 1))), (op2 oIx (nm 1) (cst (.int 2)))])) (iff (tstB (op2 oEq (op2 oIx (nm 1) (cst (.int 0))) (cst (.str "code")))) (exX (z1n 0 z20 0 [(op2 oIx (nm 1) (cst (.int 1))), (op2 oIx (nm 1) (cst (.int 2))), (op2 oIx (nm 1) (cst (.int 3)))])) (exX (z1n 0 z1p 0 [(op2 oIx (nm 1) (cst (.int 1)))]))))
def z1d : List Sl -> Option (T × List Sl) := runM 0 0 z3q 2
def z80 : Fs :=
  (seq (asgO 3 (newO 0 z2f [(nmV 0), (nmV 1)]))
  (seq (for_ (z2m (nmV 2)) (gNm 4)
  (exX (z1n 0 z1d 3 [(nmV 4)])))
  (rtnO 3)))
def z2u : List T -> Option Sl := runO z80 5
def zm0 : Fs :=
  (rtn (ofO 0 z33 (zjg z2u [(nmV 0), (nmV 1), (nmV 2)]) []))
def zbh : List T -> Option T := runF zm0 3
def zly : Fs :=
  (rtn (opN z3n [(zdo 0 12 (zjg z2u [(nmV 0), (nmV 1), (nmV 2)]))]))
def zbg : List T -> Option T := runF zly 3
end Co
end
section
namespace Co
open D Co
def z7z : Fs :=
  (seq (iff (tstB (op2 oLt (nm 1) (opN oLen [(nm 0)]))) (rtn (op2 oIx (nm 0) (nm 1))) skip)
  (rtn (cst (.int 0))))
def z3a : List T -> Option T := runF z7z 2
def zbp : Fs :=
  (seq (asg 2 (op2 oMod (op2 oMul (op2 oAdd (op2 oAdd (opN z3a [(nmV 0), (nmV 1)]) (op2 oMul (cst (.int 7919)) (nm 1))) (cst (.int 1))) (cst (.int 48271))) (cst (.int 2147483647))))
  (rtn (op2 oMod (op2 oAdd (op2 oAdd (op2 oMul (nm 2) (nm 2)) (op2 oMul (cst (.int 7)) (nm 2))) (nm 1)) (cst (.int 2147483629)))))
def z50 : List T -> Option T := runF zbp 3
def zbq : Fs :=
  (seq (asg 2 (op2 oMod (op2 oMul (op2 oAdd (op2 oAdd (nm 0) (op2 oMul (cst (.int 104729)) (nm 1))) (cst (.int 17))) (cst (.int 69621))) (cst (.int 2147483647))))
  (rtn (op2 oMod (op2 oAdd (op2 oAdd (op2 oMul (nm 2) (nm 2)) (op2 oMul (cst (.int 3)) (nm 2))) (nm 1)) (cst (.int 2147483629)))))
def z1v : List T -> Option T := runF zbq 3
def znq : Fs :=
  (seq (asg 1 (z0g []))
  (seq (for_ (z6c (z9z (z0g [(cst (.str "a")), (cst (.str "b")), (cst (.str "back")), (cst (.str "d")), (cst (.str "hall")), (cst (.str "r")), (cst (.str "win")), (cst (.str "z"))]))) (gTu [(gNm 2), (gNm 3)])
  (seq (asg 4 (op2 oDiv (opN z1v [(nmV 0), (nmV 2)]) (cst (.int 4))))
  (iff (orT (tstB (op2 oLt (op2 oMod (nm 4) (cst (.int 8))) (op2 oAdd (cst (.int 3)) (op2 oMod (nm 0) (cst (.int 5)))))) (tstB (op2 oEq (nm 2) (op2 oMod (op2 oDiv (nm 0) (cst (.int 8))) (cst (.int 8)))))) (asg 1 (op2 oAdd (nm 1) (z0g [(z0g [(nmV 3), (op2 oIx (z0g [(cst (.str "day")), (cst (.str "inner")), (cst (.str "once")), (cst (.str "way")), (cst (.str "way"))]) (op2 oMod (op2 oDiv (nm 4) (cst (.int 8))) (cst (.int 5))))])]))) skip)))
  (seq (asg 5 (z0g []))
  (seq (for_ (z6c (z9z (z0g [(cst (.str "0000")), (cst (.str "1234")), (cst (.str "4321")), (cst (.str "7777")), (cst (.str "9990")), (cst (.str "9999"))]))) (gTu [(gNm 2), (gNm 6)])
  (seq (asg 4 (op2 oDiv (opN z1v [(nmV 0), (op2 oAdd (cst (.int 10)) (nm 2))]) (cst (.int 4))))
  (iff (orT (tstB (op2 oGt (op2 oMod (nm 4) (cst (.int 3))) (cst (.int 0)))) (tstB (op2 oEq (nm 2) (cst (.int 1))))) (seq (asg 7 (opN z3n [(comp 1 [4] (z4z (cst (.int 3))) (gNm 0) (tstB (op2 oGt (op2 oMod (op2 oDiv (nm 1) (op2 oIx (z0g [(cst (.int 4)), (cst (.int 16)), (cst (.int 64))]) (nm 0))) (cst (.int 4))) (cst (.int 0)))) (op2 oIx (z0g [(cst (.str "set")), (cst (.str "shunt")), (cst (.str "unset"))]) (nm 0)))]))
  (seq (asg 8 (op2 oIx (z0g [(cst (.str "ann")), (cst (.str "bo")), (cst (.str "cy"))]) (op2 oMod (op2 oDiv (nm 4) (cst (.int 256))) (cst (.int 3)))))
  (asg 5 (op2 oAdd (nm 5) (z0g [(z0g [(nmV 6), (nmV 8), (nmV 7), (op2 oIx (z0g [(cst (.int 0)), (cst (.int 0)), (cst (.int 1)), (cst (.int 2)), (cst (.int 9))]) (op2 oMod (op2 oDiv (nm 4) (cst (.int 1024))) (cst (.int 5))))])]))))) skip)))
  (seq (asg 4 (op2 oDiv (opN z1v [(nmV 0), (cst (.int 20))]) (cst (.int 4))))
  (seq (asg 9 (z0g [(op2 oIx (z0g [(cst (.int 0)), (cst (.int 5)), (cst (.int 30)), (cst (.int 60))]) (op2 oMod (nm 4) (cst (.int 4)))), (op2 oIx (z0g [(cst (.int 0)), (cst (.int 4)), (cst (.int 20)), (cst (.int 60))]) (op2 oMod (op2 oDiv (nm 4) (cst (.int 4))) (cst (.int 4)))), (op2 oIx (z0g [(cst (.int 1)), (cst (.int 9)), (cst (.int 120)), (cst (.int 300))]) (op2 oMod (op2 oDiv (nm 4) (cst (.int 16))) (cst (.int 4))))]))
  (rtn (z0g [(nmV 1), (nmV 5), (nmV 9)]))))))))
def zab : List T -> Option T := runF znq 10
def zfy : Fs :=
  (seq (asg 2 (op2 oIx (op2 oIx (op2 oIx (nm 0) (cst (.int 0))) (op2 oMod (op2 oDiv (nm 1) (cst (.int 8))) (opN oLen [(op2 oIx (nm 0) (cst (.int 0)))]))) (cst (.int 0))))
  (seq (asg 3 (op2 oMod (nm 1) (cst (.int 10))))
  (seq (iff (tstB (op2 oLt (nm 3) (cst (.int 5)))) (rtn (z0g [(cst (.str "line")), (nmV 2), (op2 oIx (z0g [(cst (.str "shut")), (cst (.str "open")), (cst (.str "open")), (cst (.str "cut"))]) (op2 oMod (op2 oDiv (nm 1) (cst (.int 512))) (cst (.int 4))))])) skip)
  (seq (iff (tstB (op2 oLt (nm 3) (cst (.int 7)))) (rtn (z0g [(cst (.str "ticks")), (op2 oAdd (cst (.int 1)) (op2 oMod (op2 oDiv (nm 1) (cst (.int 64))) (op2 oIx (z0g [(cst (.int 3)), (cst (.int 40)), (cst (.int 200))]) (op2 oMod (op2 oDiv (nm 1) (cst (.int 4096))) (cst (.int 3))))))])) skip)
  (seq (asg 4 (op2 oIx (op2 oIx (op2 oIx (nm 0) (cst (.int 1))) (op2 oMod (op2 oDiv (nm 1) (cst (.int 64))) (opN oLen [(op2 oIx (nm 0) (cst (.int 1)))]))) (cst (.int 0))))
  (seq (iff (tstB (op2 oEq (op2 oMod (op2 oDiv (nm 1) (cst (.int 65536))) (cst (.int 4))) (cst (.int 0)))) (asg 4 (op2 oIx (z0g [(cst (.str "0001")), (cst (.str "1111")), (cst (.str "9999")), (cst (.str "0000"))]) (op2 oMod (op2 oDiv (nm 1) (cst (.int 512))) (cst (.int 4))))) skip)
  (seq (asg 5 (op2 oIx (z0g [(cst (.str "set")), (cst (.str "set")), (cst (.str "unset")), (cst (.str "shunt")), (cst (.str "free")), (cst (.str "shunt"))]) (op2 oMod (op2 oDiv (nm 1) (cst (.int 4096))) (cst (.int 6)))))
  (seq (iff (tstB (op2 (oIn false) (nm 5) (z0g [(cst (.str "set")), (cst (.str "unset"))]))) (rtn (z0g [(cst (.str "code")), (nmV 4), (nmV 5), (cst .none)])) skip)
  (rtn (z0g [(cst (.str "code")), (nmV 4), (nmV 5), (nmV 2)]))))))))))
def z47 : List T -> Option T := runF zfy 6
def ze0 : Fs :=
  (seq (asg 3 (opN z3n [(comp 1 [0, 1] (z4z (op2 oMod (nm 1) (op2 oAdd (nm 2) (cst (.int 1))))) (gNm 0) (cstT true) (opN z47 [(nmV 1), (op2 oDiv (opN z1v [(nmV 2), (op2 oAdd (cst (.int 30)) (nm 0))]) (cst (.int 4)))]))]))
  (seq (iff (andT (tstB (op2 oEq (op2 oMod (op2 oDiv (nm 1) (cst (.int 64))) (cst (.int 5))) (cst (.int 0)))) (tstB (op2 oGt (opN oLen [(nm 3)]) (cst (.int 2))))) (asg 3 (op2 oAdd (slice (nm 3) optN (opt (op1 oNeg (cst (.int 3))))) (op2 oRep (z0g [(z0g [(cst (.str "code")), (cst (.str "5555")), (cst (.str "unset")), (cst .none)])]) (cst (.int 3))))) skip)
  (rtn (nm 3))))
def z9d : List T -> Option T := runF ze0 4
end Co
end
section
namespace K16
open D Co
def zqe : Fs :=
  (seq (asg 1 (opN zab [(opN z50 [(nmV 0), (cst (.int 0))])]))
  (seq (asg 2 (z0g []))
  (seq (for_ (z4z (cst (.int 4))) (gNm 3)
  (asg 2 (op2 oAdd (nm 2) (opN z9d [(nmV 1), (opN z50 [(nmV 0), (op2 oAdd (cst (.int 1)) (nm 3))]), (cst (.int 7))]))))
  (seq (asg 4 (opN zbg [(nmV 1), (opN z9e [(nmV 1)]), (nmV 2)]))
  (seq (asg 5 (comp 1 [] (z2m (nmV 4)) (gNm 0) (cstT true) (op2 oIx (nm 0) (cst (.int 0)))))
  (seq (iff (tstB (op2 oNe (nm 5) (opN za6 [(nm 5)]))) (rtn (cst (.bool false))) skip)
  (seq (asgN 6 (z3x []))
  (seq (asg 7 (cst (.str "off")))
  (seq (asg 8 (comp 1 [] (z2m (op2 oIx (nm 1) (cst (.int 0)))) (gNm 0) (cstT true) (op2 oIx (nm 0) (cst (.int 0)))))
  (seq (asg 9 (comp 1 [] (z2m (op2 oIx (nm 1) (cst (.int 1)))) (gNm 0) (cstT true) (op2 oIx (nm 0) (cst (.int 1)))))
  (seq (for_ (z2m (nmV 4)) (gTu [(gNm 10), (gNm 11), (gNm 12)])
  (seq (iff (tstB (op2 oEq (nm 11) (cst (.str "set")))) (seq (asgN 6 (z3x []))
  (seq (iff (orT (tstB (op2 oNe (nm 7) (cst (.str "off")))) (tstB (op2 (oIn true) (nm 12) (nm 9)))) (rtn (cst (.bool false))) skip)
  (asg 7 (cst (.str "leaving"))))) skip)
  (seq (iff (tstB (op2 oEq (nm 11) (cst (.str "unset")))) (asg 7 (cst (.str "off"))) skip)
  (seq (iff (tstB (op2 oEq (nm 11) (cst (.str "on")))) (seq (iff (tstB (op2 oNe (nm 7) (cst (.str "leaving")))) (rtn (cst (.bool false))) skip)
  (asg 7 (cst (.str "on")))) skip)
  (seq (iff (orT (andT (tstB (op2 oEq (nm 11) (cst (.str "coming")))) (tstB (op2 oEq (nm 7) (cst (.str "off"))))) (andT (tstB (op2 oEq (nm 11) (cst (.str "fault")))) (tstB (op2 oNe (nm 7) (cst (.str "off")))))) (rtn (cst (.bool false))) skip)
  (iff (tstB (op2 oEq (nm 11) (cst (.str "alarm")))) (seq (iff (orT (tstB (op2 (oIn false) (nm 12) (nm 6))) (tstB (op2 (oIn true) (nm 12) (nm 8)))) (rtn (cst (.bool false))) skip)
  (app 6 (nmV 12))) skip))))))
  (seq (asg 13 (opN zbh [(nmV 1), (opN z9e [(nmV 1)]), (nmV 2)]))
  (seq (iff (orT (tstB (op2 oNe (opN ziq [(op2 oIx (nm 13) (cst (.int 6)))]) (nm 6))) (orT (andT (tstB (op2 oEq (op2 oIx (nm 13) (cst (.int 0))) (cst (.str "off")))) (tstB (op2 oNe (nm 7) (cst (.str "off"))))) (andT (tstB (op2 oNe (op2 oIx (nm 13) (cst (.int 0))) (cst (.str "off")))) (tstB (op2 oEq (nm 7) (cst (.str "off"))))))) (rtn (cst (.bool false))) skip)
  (seq (iff (tstB (op2 oNe (comp 1 [8, 4] (z2m (op2 oIx (nm 13) (cst (.int 4)))) (gNm 0) (orT (tstB (op2 (oIn true) (nm 0) (nm 1))) (tstB (op2 (oIn true) (z0g [(cst (.str "shunt")), (nmV 0)]) (comp 1 [] (z2m (nmV 2)) (gNm 0) (cstT true) (slice (nm 0) (opt (cst (.int 1))) optN))))) (nmV 0)) (z3x []))) (rtn (cst (.bool false))) skip)
  (rtn (andV (op2 oEq (op1 z7u (op2 oIx (nm 13) (cst (.int 2)))) (op2 oEq (op2 oIx (nm 13) (cst (.int 0))) (cst (.str "coming")))) (op2 oEq (op2 oGt (op2 oIx (nm 13) (cst (.int 1))) (cst (.int 0))) (op2 (oIn false) (op2 oIx (nm 13) (cst (.int 0))) (z0g [(cst (.str "leaving")), (cst (.str "coming"))])))))))))))))))))))
def zja : List T -> Option T := runF zqe 14
end K16
end
section
namespace K16
open PySem PySem.Spec PyProof.Rows L2 D Co
variable [Tbl]
def top (i : Nat) : Stmt := PySem.Challenge.pw_doorwatch_k16_whole_logs.main.body.getD i (.Pass ⟨0, 0, 0, 0⟩)
section
variable {P : y0r} {w : World} {K : y00} {mg : Str -> Option Value} {base : Heap} {CCourse : Addr}
abbrev z4q : Stmt := top 4
theorem zcc : FnScope ["plan", "name", "zone"] ["plan", "name"] (z01 z4q) := ⟨rfl, rfl, rfl, by decide +kernel, rfl, by decide +kernel, by decide +kernel⟩
theorem zjk {K : y00} {f : Addr} {fd : y0b} (F : Fun K "kind_of" "kind_of" z4q f fd) : z15 K fd ["plan", "name"] [] := F.binds (ps := ["plan", "name"]) fun _ _ _ _ _ _ us hl => match us, hl with | [_, _], _ => rfl
theorem z6w {k : Nat} {f : Addr} {fd : y0b} (F : Fun K "kind_of" "kind_of" z4q f fd) (m : mg "kind_of" = some (.ref f))  : Cl P w K mg base "kind_of" (k + 1) 2 z51 :=
 za0 F zcc (zjk F) m fun cdv A outer s H E hr =>
  (z04 (zed y2e (z7a (q_ix (q_nm 0) (v2r z03))) (g_nm 2 zcc.nd)
  (z09 (s_if (z0l (z13 (by exact hr.units)) z14 (v2r (q_ix (q_nm 2) (v2r z03))) (q_nm 1)) (z09 (z2w (q_ix (q_nm 2) (v2r z03)))) z2q)))
  (z09 zov))
abbrev z5v : Stmt := top 5
theorem zdb : FnScope ["plan", "lines", "used"] ["plan"] (z01 z5v) := ⟨rfl, rfl, rfl, by decide +kernel, rfl, by decide +kernel, by decide +kernel⟩
theorem zno {K : y00} {f : Addr} {fd : y0b} (F : Fun K "begun" "begun" z5v f fd) : z15 K fd ["plan"] [] := F.binds (ps := ["plan"]) fun _ _ _ _ _ _ us hl => match us, hl with | [_], _ => rfl
theorem zdz {k : Nat} {f : Addr} {fd : y0b} (F : Fun K "begun" "begun" z5v f fd) (m : mg "begun" = some (.ref f)) (z_tuple : mg "tuple" = none) : Cl P w K mg base "begun" (k + 1) 1 z9e :=
 za0 F zdb (zno F) m fun cdv A outer s H E hr =>
  (z04 (z24 1 zdb.nd (z7t z_tuple (z3i (v2r (z5h (own := ["zone"]) (caps := []) (z6d (sc := z01 z5v) ["plan", "lines", "used"] rfl rfl rfl (by decide +kernel)) (z7a (q_ix (q_nm 0) (v2r z03))) (fun _ _ _ _ _ _ => (g_nm 0 (show y1v (["zone"] : List Str) by decide +kernel))) (fun _ _ _ _ _ _ => z82) (fun _ _ _ _ _ _ => z08))) z5g)))
  (z04 (z24 2 zdb.nd (z7t z_tuple (z3i (v2r (z5h (own := ["code"]) (caps := []) (z6d (sc := z01 z5v) ["plan", "lines", "used"] rfl rfl rfl (by decide +kernel)) (z7a (q_ix (q_nm 0) (v2r z03))) (fun _ _ _ _ _ _ => (g_nm 0 (show y1v (["code"] : List Str) by decide +kernel))) (fun _ _ _ _ _ _ => z82) (fun _ _ _ _ _ _ => z03))) z5g)))
  (z09 (z2w (z2a (z00 z08 (z00 z03 (z00 zan (z00 (z0c 1) (z00 (z2a z05) (z00 z03 (z00 (z2a z05) (z00 z03 (z00 z03 (z00 (z0c 2) z05)))))))))))))))
abbrev z4r : Stmt := top 11
theorem zcd : FnScope ["plan", "figures", "code"] ["plan", "figures"] (z01 z4r) := ⟨rfl, rfl, rfl, by decide +kernel, rfl, by decide +kernel, by decide +kernel⟩
theorem zjl {K : y00} {f : Addr} {fd : y0b} (F : Fun K "code_of" "code_of" z4r f fd) : z15 K fd ["plan", "figures"] [] := F.binds (ps := ["plan", "figures"]) fun _ _ _ _ _ _ us hl => match us, hl with | [_, _], _ => rfl
theorem zbl {k : Nat} {f : Addr} {fd : y0b} (F : Fun K "code_of" "code_of" z4r f fd) (m : mg "code_of" = some (.ref f))  : Cl P w K mg base "code_of" (k + 1) 2 z6v :=
 za0 F zcd (zjl F) m fun cdv A outer s H E hr =>
  (z04 (zed y2e (z7a (q_ix (q_nm 0) (v2r z03))) (g_nm 2 zcd.nd)
  (z09 (s_if (z0l (z13 (by exact hr.units)) z14 (v2r (q_ix (q_nm 2) (v2r z03))) (q_nm 1)) (z09 (znz 2)) z2q)))
  (z09 (z2w zan)))
abbrev z3v : Stmt := top 12
theorem zgc : FnScope ["ticks", "many"] ["ticks", "many"] (z01 z3v) := ⟨rfl, rfl, rfl, by decide +kernel, rfl, by decide +kernel, by decide +kernel⟩
theorem zhb {K : y00} {f : Addr} {fd : y0b} (F : Fun K "lessened" "lessened" z3v f fd) : z15 K fd ["ticks", "many"] [] := F.binds (ps := ["ticks", "many"]) fun _ _ _ _ _ _ us hl => match us, hl with | [_, _], _ => rfl
theorem z5o {k : Nat} {f : Addr} {fd : y0b} (F : Fun K "lessened" "lessened" z3v f fd) (m : mg "lessened" = some (.ref f)) (z_max : mg "max" = none) : Cl P w K mg base "lessened" (k + 1) 2 z3y :=
 za0 F zgc (zhb F) m fun cdv A outer s H E hr =>
  (z09 (z2w (zsu z_max (z3i (v2r (zqy (q_nm 0) (q_nm 1))) (z3i (v2r z03) z5g)))))
abbrev z0m : Stmt := z1o (top 13) 0
theorem z89 : FnScope ["self", "plan", "state"] ["self", "plan", "state"] (z01 z0m) := ⟨rfl, rfl, rfl, by decide +kernel, rfl, by decide +kernel, by decide +kernel⟩
theorem z8t {K : y00} {f : Addr} {fd : y0b} (F : Fun K "__init__" "Course.__init__" z0m f fd) : z15 K fd ["self", "plan", "state"] [] := F.binds (ps := ["self", "plan", "state"]) fun _ _ _ _ _ _ us hl => match us, hl with | [_, _, _], _ => rfl
theorem z9i {k : Nat} {f : Addr} {fd : y0b} (F : Fun K "__init__" "Course.__init__" z0m f fd) (me : Mk K CCourse f) (m : mg "Course" = some (.ref CCourse)) (kcCourse : ClOk K 0 CCourse ["plan", "mode", "left", "came", "lines", "shunts", "siren", "alarms", "tries", "locked", "used", "past", "told"]) (z_dict : mg "dict" = none) (z_list : mg "list" = none) (z_zip : mg "zip" = none) : ClNew P w K mg base "Course" CCourse 0 (k + 1) 3 z2f :=
 zrr F z89 (z8t F) me m fun cdv A outer s H E hr =>
  (z04 (z1z (j := 0) kcCourse (pv 0) (z0c 1))
  (z04 (z1z (j := 1) kcCourse (pv 0) (q_ix (q_nm 2) (v2r z03)))
  (z04 (z1z (j := 2) kcCourse (pv 0) (q_ix (q_nm 2) (v2r z03)))
  (z04 (z1z (j := 3) kcCourse (pv 0) (q_ix (q_nm 2) (v2r z03)))
  (z04 (zk2 (j := 4) kcCourse rfl z_dict z_zip (pv 0) (v2r (z5h (own := ["zone"]) (caps := []) (z6d (sc := z01 z0m) ["self", "plan", "state"] rfl rfl rfl (by decide +kernel)) (z7a (q_ix (q_nm 1) (v2r z03))) (fun _ _ _ _ _ _ => (g_nm 0 (show y1v (["zone"] : List Str) by decide +kernel))) (fun _ _ _ _ _ _ => z82) (fun _ _ _ _ _ _ => (q_ix (q_nm 0) (v2r z03))))) (v2r (q_ix (q_nm 2) (v2r z03))))
  (z04 (z96 (j := 5) kcCourse (pv 0) (zke z_list (v2r (q_ix (q_nm 2) (v2r z03)))))
  (z04 (z1z (j := 6) kcCourse (pv 0) (q_ix (q_nm 2) (v2r z03)))
  (z04 (z96 (j := 7) kcCourse (pv 0) (zke z_list (v2r (q_ix (q_nm 2) (v2r z03)))))
  (z04 (z1z (j := 8) kcCourse (pv 0) (q_ix (q_nm 2) (v2r z03)))
  (z04 (z1z (j := 9) kcCourse (pv 0) (q_ix (q_nm 2) (v2r z03)))
  (z04 (zk2 (j := 10) kcCourse rfl z_dict z_zip (pv 0) (v2r (z5h (own := ["code"]) (caps := []) (z6d (sc := z01 z0m) ["self", "plan", "state"] rfl rfl rfl (by decide +kernel)) (z7a (q_ix (q_nm 1) (v2r z03))) (fun _ _ _ _ _ _ => (g_nm 0 (show y1v (["code"] : List Str) by decide +kernel))) (fun _ _ _ _ _ _ => z82) (fun _ _ _ _ _ _ => (q_ix (q_nm 0) (v2r z03))))) (v2r (q_ix (q_nm 2) (v2r z03))))
  (z04 (z1z (j := 11) kcCourse (pv 0) z03)
  (z09 (z96 (j := 12) kcCourse (pv 0) (zii z05)))))))))))))))
abbrev z26 : Stmt := z1o (top 13) 1
theorem z2s : FnScope ["self", "lines", "shunts", "alarms", "used"] ["self"] (z01 z26) := ⟨rfl, rfl, rfl, by decide +kernel, rfl, by decide +kernel, by decide +kernel⟩
theorem zbn {K : y00} {f : Addr} {fd : y0b} (F : Fun K "state" "Course.state" z26 f fd) : z15 K fd ["self"] [] := F.binds (ps := ["self"]) fun _ _ _ _ _ _ us hl => match us, hl with | [_], _ => rfl
theorem z5j {k : Nat} {f : Addr} {fd : y0b} (F : Fun K "state" "Course.state" z26 f fd) (m : Meth K CCourse "state" f) (kcCourse : ClOk K 0 CCourse ["plan", "mode", "left", "came", "lines", "shunts", "siren", "alarms", "tries", "locked", "used", "past", "told"]) (z_tuple : mg "tuple" = none) : MtRd P w K mg base CCourse "state" (k + 1) 1 z33 :=
 zf0 F z2s (zbn F) m fun cdv A outer s H E hr =>
  (z04 (z24 1 z2s.nd (zkf (j := 4) kcCourse rfl z_tuple (pv 0)))
  (z04 (z24 2 z2s.nd (z7t z_tuple (z3i (z4t (j := 5) kcCourse (pv 0)) z5g)))
  (z04 (z24 3 z2s.nd (z7t z_tuple (z3i (z4t (j := 7) kcCourse (pv 0)) z5g)))
  (z04 (z24 4 z2s.nd (zkf (j := 10) kcCourse rfl z_tuple (pv 0)))
  (z09 (z2w (z2a (z00 (z4s (j := 1) kcCourse (pv 0)) (z00 (z4s (j := 2) kcCourse (pv 0)) (z00 (z4s (j := 3) kcCourse (pv 0)) (z00 (z0c 1) (z00 (z0c 2) (z00 (z4s (j := 6) kcCourse (pv 0)) (z00 (z0c 3) (z00 (z4s (j := 8) kcCourse (pv 0)) (z00 (z4s (j := 9) kcCourse (pv 0)) (z00 (z0c 4) z05)))))))))))))))))
abbrev z2i : Stmt := z1o (top 13) 3
theorem zbx : FnScope ["self", "word", "name"] ["self", "word", "name"] (z01 z2i) := ⟨rfl, rfl, rfl, by decide +kernel, rfl, by decide +kernel, by decide +kernel⟩
theorem zc4 {K : y00} {f : Addr} {fd : y0b} (F : Fun K "tell" "Course.tell" z2i f fd) : z15 K fd ["self", "word", "name"] [] := F.binds (ps := ["self", "word", "name"]) fun _ _ _ _ _ _ us hl => match us, hl with | [_, _, _], _ => rfl
theorem z07 {k : Nat} {f : Addr} {fd : y0b} (F : Fun K "tell" "Course.tell" z2i f fd) (m : Meth K CCourse "tell" f) (kcCourse : ClOk K 0 CCourse ["plan", "mode", "left", "came", "lines", "shunts", "siren", "alarms", "tries", "locked", "used", "past", "told"]) : MtMd P w K mg base CCourse 0 "tell" (k + 1) 3 z06 :=
 z3t F zbx (zc4 F) m fun cdv A outer s H E hr =>
  (z09 (zo2 (j := 12) kcCourse (pv 0) (z2a (z00 (z4s (j := 11) kcCourse (pv 0)) (z00 (z0c 1) (z00 (z0c 2) z05))))))
abbrev z1h : Stmt := z1o (top 13) 4
theorem z95 : FnScope ["self"] ["self"] (z01 z1h) := ⟨rfl, rfl, rfl, by decide +kernel, rfl, by decide +kernel, by decide +kernel⟩
theorem z9n {K : y00} {f : Addr} {fd : y0b} (F : Fun K "be_loud" "Course.be_loud" z1h f fd) : z15 K fd ["self"] [] := F.binds (ps := ["self"]) fun _ _ _ _ _ _ us hl => match us, hl with | [_], _ => rfl
theorem z2o {k : Nat} {f : Addr} {fd : y0b} (F : Fun K "be_loud" "Course.be_loud" z1h f fd) (m : Meth K CCourse "be_loud" f) (kcCourse : ClOk K 0 CCourse ["plan", "mode", "left", "came", "lines", "shunts", "siren", "alarms", "tries", "locked", "used", "past", "told"]) : MtMd P w K mg base CCourse 0 "be_loud" (k + 1) 1 z1k :=
 z3t F z95 (z9n F) m fun cdv A outer s H E hr =>
  (z09 (z1z (j := 6) kcCourse (pv 0) (q_ix (v2r (q_ix (z4t (j := 0) kcCourse (pv 0)) (v2r z03))) (v2r z03))))
abbrev z27 : Stmt := z1o (top 13) 5
theorem zal : FnScope ["self", "zone"] ["self", "zone"] (z01 z27) := ⟨rfl, rfl, rfl, by decide +kernel, rfl, by decide +kernel, by decide +kernel⟩
theorem zbo {K : y00} {f : Addr} {fd : y0b} (F : Fun K "alarm" "Course.alarm" z27 f fd) : z15 K fd ["self", "zone"] [] := F.binds (ps := ["self", "zone"]) fun _ _ _ _ _ _ us hl => match us, hl with | [_, _], _ => rfl
theorem z11 {k : Nat} {f : Addr} {fd : y0b} (F : Fun K "alarm" "Course.alarm" z27 f fd) (m : Meth K CCourse "alarm" f) (kcCourse : ClOk K 0 CCourse ["plan", "mode", "left", "came", "lines", "shunts", "siren", "alarms", "tries", "locked", "used", "past", "told"]) (z2o : MtMd P w K mg base CCourse 0 "be_loud" k 1 z1k) (z07 : MtMd P w K mg base CCourse 0 "tell" k 3 z06) : MtMd P w K mg base CCourse 0 "alarm" (k + 1) 2 z0i :=
 z3t F zal (zbo F) m fun cdv A outer s H E hr =>
  (z04 (z2l (z5t kcCourse z2o hr (pv 0)))
  (z09 (s_if (z0l (z3m (by exact hr.units)) z4u (q_nm 1) (z4t (j := 7) kcCourse (pv 0))) (z04 (zo2 (j := 7) kcCourse (pv 0) (z0c 1))
  (z09 (z2l (z0r kcCourse z07 hr (pv 0) (z00 z08 (z00 (z0c 1) z05)))))) z2q)))
abbrev z1g : Stmt := z1o (top 13) 9
theorem z94 : FnScope ["self", "zone", "kind"] ["self", "zone", "kind"] (z01 z1g) := ⟨rfl, rfl, rfl, by decide +kernel, rfl, by decide +kernel, by decide +kernel⟩
theorem z9m {K : y00} {f : Addr} {fd : y0b} (F : Fun K "come_in" "Course.come_in" z1g f fd) : z15 K fd ["self", "zone", "kind"] [] := F.binds (ps := ["self", "zone", "kind"]) fun _ _ _ _ _ _ us hl => match us, hl with | [_, _, _], _ => rfl
theorem z4d {k : Nat} {f : Addr} {fd : y0b} (F : Fun K "come_in" "Course.come_in" z1g f fd) (m : Meth K CCourse "come_in" f) (kcCourse : ClOk K 0 CCourse ["plan", "mode", "left", "came", "lines", "shunts", "siren", "alarms", "tries", "locked", "used", "past", "told"]) (z07 : MtMd P w K mg base CCourse 0 "tell" k 3 z06) (z11 : MtMd P w K mg base CCourse 0 "alarm" k 2 z0i) : MtMd P w K mg base CCourse 0 "come_in" (k + 1) 3 z1j :=
 z3t F z94 (z9m F) m fun cdv A outer s H E hr =>
  (z04 (s_if (w_t (w_or (z0l (z69 (by exact hr.units)) z6a (q_nm 2) (v2r z08)) (zbu (z0l (zpm.or zaq) zkt (v2r (q_ix (v2r (q_ix (z4t (j := 0) kcCourse (pv 0)) (v2r z03))) (v2r z03))) (v2r z03))))) (z04 (z2l (z0r kcCourse z11 hr (pv 0) (z00 (z0c 1) z05)))
  (z09 zgd)) z2q)
  (z04 (z1z (j := 1) kcCourse (pv 0) z08)
  (z04 (z1z (j := 2) kcCourse (pv 0) (q_ix (v2r (q_ix (z4t (j := 0) kcCourse (pv 0)) (v2r z03))) (v2r z03)))
  (z04 (z1z (j := 3) kcCourse (pv 0) (z0c 1))
  (z09 (z2l (z0r kcCourse z07 hr (pv 0) (z00 z08 (z00 (z0c 1) z05)))))))))
abbrev z1f : Stmt := z1o (top 13) 8
theorem z5m : FnScope ["self", "zone", "what", "kind"] ["self", "zone", "what"] (z01 z1f) := ⟨rfl, rfl, rfl, by decide +kernel, rfl, by decide +kernel, by decide +kernel⟩
theorem z9l {K : y00} {f : Addr} {fd : y0b} (F : Fun K "disturb" "Course.disturb" z1f f fd) : z15 K fd ["self", "zone", "what"] [] := F.binds (ps := ["self", "zone", "what"]) fun _ _ _ _ _ _ us hl => match us, hl with | [_, _, _], _ => rfl
theorem z4c {k : Nat} {f : Addr} {fd : y0b} (F : Fun K "disturb" "Course.disturb" z1f f fd) (m : Meth K CCourse "disturb" f) (kcCourse : ClOk K 0 CCourse ["plan", "mode", "left", "came", "lines", "shunts", "siren", "alarms", "tries", "locked", "used", "past", "told"]) (z6w : Cl P w K mg base "kind_of" k 2 z51) (z11 : MtMd P w K mg base CCourse 0 "alarm" k 2 z0i) (z07 : MtMd P w K mg base CCourse 0 "tell" k 3 z06) (z4d : MtMd P w K mg base CCourse 0 "come_in" k 3 z1j) : MtMd P w K mg base CCourse 0 "disturb" (k + 1) 3 z2n :=
 z3t F z5m (z9l F) m fun cdv A outer s H E hr =>
  (z04 (z24 3 z5m.nd (z2b z6w hr (z00 (z4s (j := 0) kcCourse (pv 0)) (z00 (z0c 1) z05))))
  (z09 (s_if (z0l (z13 (by exact hr.units)) z14 (q_nm 3) (v2r z08)) (z09 (z2l (z0r kcCourse z11 hr (pv 0) (z00 (z0c 1) z05)))) (z09 (s_if (z0l (z13 (by exact hr.units)) z14 (z4t (j := 1) kcCourse (pv 0)) (v2r z08)) (z09 (s_if (z0l (z13 (by exact hr.units)) z14 (q_nm 2) (v2r z08)) (z09 (z2l (z0r kcCourse z07 hr (pv 0) (z00 z08 (z00 (z0c 1) z05))))) z2q)) (z09 (s_if (w_t (w_or (z0l (z13 (by exact hr.units)) z14 (q_nm 2) (v2r z08)) (zbu (z0l (z13 (by exact hr.units)) z14 (q_nm 3) (v2r z08))))) (z09 (z2l (z0r kcCourse z11 hr (pv 0) (z00 (z0c 1) z05)))) (z09 (s_if (z0l (z13 (by exact hr.units)) z14 (z4t (j := 1) kcCourse (pv 0)) (v2r z08)) (z09 (z2l (z0r kcCourse z4d hr (pv 0) (z00 (z0c 1) (z00 (z0c 3) z05))))) z2q)))))))))
abbrev z2j : Stmt := z1o (top 13) 7
theorem z7j : FnScope ["self", "zone", "what", "before"] ["self", "zone", "what"] (z01 z2j) := ⟨rfl, rfl, rfl, by decide +kernel, rfl, by decide +kernel, by decide +kernel⟩
theorem zc5 {K : y00} {f : Addr} {fd : y0b} (F : Fun K "line" "Course.line" z2j f fd) : z15 K fd ["self", "zone", "what"] [] := F.binds (ps := ["self", "zone", "what"]) fun _ _ _ _ _ _ us hl => match us, hl with | [_, _, _], _ => rfl
theorem z65 {k : Nat} {f : Addr} {fd : y0b} (F : Fun K "line" "Course.line" z2j f fd) (m : Meth K CCourse "line" f) (kcCourse : ClOk K 0 CCourse ["plan", "mode", "left", "came", "lines", "shunts", "siren", "alarms", "tries", "locked", "used", "past", "told"]) (z07 : MtMd P w K mg base CCourse 0 "tell" k 3 z06) (z4c : MtMd P w K mg base CCourse 0 "disturb" k 3 z2n) : MtMd P w K mg base CCourse 0 "line" (k + 1) 3 z3p :=
 z3t F z7j (zc5 F) m fun cdv A outer s H E hr =>
  (z04 (z24 3 z7j.nd (zkg (j := 4) kcCourse (zlf hr) (pv 0) (q_nm 1)))
  (z04 (s_if (z0l (z13 (by exact hr.units)) z14 (q_nm 2) (q_nm 3)) (z09 zgd) z2q)
  (z04 (zqq (j := 4) kcCourse (zlf hr) (pv 0) (q_nm 1) (z0c 2))
  (z09 (s_if (z0l (z13 (by exact hr.units)) z14 (q_nm 2) (v2r z08)) (z09 (s_if (z0l (z13 (by exact hr.units)) z14 (q_nm 3) (v2r z08)) (z09 (z2l (z0r kcCourse z07 hr (pv 0) (z00 z08 (z00 (z0c 1) z05))))) z2q)) (z09 (s_if (z0l (z3m (by exact hr.units)) z4u (q_nm 1) (z4t (j := 5) kcCourse (pv 0))) (z09 (z2l (z0r kcCourse z4c hr (pv 0) (z00 (z0c 1) (z00 (z0c 2) z05))))) z2q)))))))
abbrev z0u : Stmt := z1o (top 13) 16
theorem z77 : FnScope ["self", "code"] ["self", "code"] (z01 z0u) := ⟨rfl, rfl, rfl, by decide +kernel, rfl, by decide +kernel, by decide +kernel⟩
theorem z7e {K : y00} {f : Addr} {fd : y0b} (F : Fun K "is_used_up" "Course.is_used_up" z0u f fd) : z15 K fd ["self", "code"] [] := F.binds (ps := ["self", "code"]) fun _ _ _ _ _ _ us hl => match us, hl with | [_, _], _ => rfl
theorem z3d {k : Nat} {f : Addr} {fd : y0b} (F : Fun K "is_used_up" "Course.is_used_up" z0u f fd) (m : Meth K CCourse "is_used_up" f) (kcCourse : ClOk K 0 CCourse ["plan", "mode", "left", "came", "lines", "shunts", "siren", "alarms", "tries", "locked", "used", "past", "told"]) : MtRd P w K mg base CCourse "is_used_up" (k + 1) 2 z1c :=
 zf0 F z77 (z7e F) m fun cdv A outer s H E hr =>
  (z09 (z2w (zp1 (zap (z69 (by exact hr.units)) z6a (v2r (q_ix (q_nm 1) (v2r z03))) (v2r z03)) (zkh (zap (zro.or zem) zo7 (v2r (zkg (j := 10) kcCourse (zlf hr) (pv 0) (v2r (q_ix (q_nm 1) (v2r z03))))) (v2r (q_ix (q_nm 1) (v2r z03))))))))
abbrev z0s : Stmt := z1o (top 13) 17
theorem z76 : FnScope ["self"] ["self"] (z01 z0s) := ⟨rfl, rfl, rfl, by decide +kernel, rfl, by decide +kernel, by decide +kernel⟩
theorem z7c {K : y00} {f : Addr} {fd : y0b} (F : Fun K "take_wrong" "Course.take_wrong" z0s f fd) : z15 K fd ["self"] [] := F.binds (ps := ["self"]) fun _ _ _ _ _ _ us hl => match us, hl with | [_], _ => rfl
theorem z3b {k : Nat} {f : Addr} {fd : y0b} (F : Fun K "take_wrong" "Course.take_wrong" z0s f fd) (m : Meth K CCourse "take_wrong" f) (kcCourse : ClOk K 0 CCourse ["plan", "mode", "left", "came", "lines", "shunts", "siren", "alarms", "tries", "locked", "used", "past", "told"]) (z07 : MtMd P w K mg base CCourse 0 "tell" k 3 z06) (z2o : MtMd P w K mg base CCourse 0 "be_loud" k 1 z1k) {t_WRONG_IN_A_ROW : Tok} (g_WRONG_IN_A_ROW : mg "WRONG_IN_A_ROW" = some (.int 3 t_WRONG_IN_A_ROW)) {t_TICKS_LOCKED : Tok} (g_TICKS_LOCKED : mg "TICKS_LOCKED" = some (.int 90 t_TICKS_LOCKED)) : MtMd P w K mg base CCourse 0 "take_wrong" (k + 1) 1 z1a :=
 z3t F z76 (z7c F) m fun cdv A outer s H E hr =>
  (z04 (z2l (z0r kcCourse z07 hr (pv 0) (z00 z08 (z00 zan z05))))
  (z04 (zo0 (j := 8) kcCourse (pv 0) z03)
  (z09 (s_if (z0l (zro.or zem) zo7 (z4t (j := 8) kcCourse (pv 0)) (v2r (q_gI g_WRONG_IN_A_ROW))) (z04 (z1z (j := 8) kcCourse (pv 0) z03)
  (z04 (z1z (j := 9) kcCourse (pv 0) (q_gI g_TICKS_LOCKED))
  (z04 (z2l (z5t kcCourse z2o hr (pv 0)))
  (z09 (z2l (z0r kcCourse z07 hr (pv 0) (z00 z08 (z00 zan z05)))))))) z2q))))
abbrev z0n : Stmt := z1o (top 13) 20
theorem z6j : FnScope ["self", "deed", "zone"] ["self", "deed", "zone"] (z01 z0n) := ⟨rfl, rfl, rfl, by decide +kernel, rfl, by decide +kernel, by decide +kernel⟩
theorem z6x {K : y00} {f : Addr} {fd : y0b} (F : Fun K "is_untimely" "Course.is_untimely" z0n f fd) : z15 K fd ["self", "deed", "zone"] [] := F.binds (ps := ["self", "deed", "zone"]) fun _ _ _ _ _ _ us hl => match us, hl with | [_, _, _], _ => rfl
theorem z2z {k : Nat} {f : Addr} {fd : y0b} (F : Fun K "is_untimely" "Course.is_untimely" z0n f fd) (m : Meth K CCourse "is_untimely" f) (kcCourse : ClOk K 0 CCourse ["plan", "mode", "left", "came", "lines", "shunts", "siren", "alarms", "tries", "locked", "used", "past", "told"]) (z6w : Cl P w K mg base "kind_of" k 2 z51) : MtRd P w K mg base CCourse "is_untimely" (k + 1) 3 z0e :=
 zf0 F z6j (z6x F) m fun cdv A outer s H E hr =>
  (z04 (s_if (z0l (z13 (by exact hr.units)) z14 (q_nm 1) (v2r z08)) (z09 (z2w q_bl)) z2q)
  (z04 (s_if (z0l (z69 (by exact hr.units)) z6a (z4t (j := 1) kcCourse (pv 0)) (v2r z08)) (z09 (z2w q_bl)) z2q)
  (z04 (s_if (z0l (z13 (by exact hr.units)) z14 (q_nm 1) (v2r z08)) (z09 (z2w (q_or (zap (z13 (by exact hr.units)) z14 (v2r (z2b z6w hr (z00 (z4s (j := 0) kcCourse (pv 0)) (z00 (z0c 2) z05)))) (v2r z08)) (zsr (zap (zcj (by exact hr.units)) z4u (q_nm 2) (z4t (j := 5) kcCourse (pv 0))))))) z2q)
  (z09 (z2w (zp1 (zap (z13 (by exact hr.units)) z14 (q_nm 1) (v2r z08)) (zkh (zap (z3m (by exact hr.units)) z4u (q_nm 2) (z4t (j := 5) kcCourse (pv 0))))))))))
abbrev z0k : Stmt := z1o (top 13) 6
theorem z4g : FnScope ["self", "kinds", "zones"] ["self", "kinds"] (z01 z0k) := ⟨rfl, rfl, rfl, by decide +kernel, rfl, by decide +kernel, by decide +kernel⟩
theorem z7h {K : y00} {f : Addr} {fd : y0b} (F : Fun K "bare_zones" "Course.bare_zones" z0k f fd) : z15 K fd ["self", "kinds"] [] := F.binds (ps := ["self", "kinds"]) fun _ _ _ _ _ _ us hl => match us, hl with | [_, _], _ => rfl
theorem z1y {k : Nat} {f : Addr} {fd : y0b} (F : Fun K "bare_zones" "Course.bare_zones" z0k f fd) (m : Meth K CCourse "bare_zones" f) (kcCourse : ClOk K 0 CCourse ["plan", "mode", "left", "came", "lines", "shunts", "siren", "alarms", "tries", "locked", "used", "past", "told"]) : MtRd P w K mg base CCourse "bare_zones" (k + 1) 2 z0y :=
 zf0 F z4g (z7h F) m fun cdv A outer s H E hr =>
  (z04 (zk3 2 z4g.nd (own := ["zone"]) (caps := [(1, "kinds")]) (z6d (sc := z01 z0k) ["self", "kinds", "zones"] rfl rfl rfl (by decide +kernel)) (z7a (q_ix (z4t (j := 0) kcCourse (pv 0)) (v2r z03))) (fun _ _ _ _ _ _ => (g_nm 0 (show y1v (["zone", "kinds"] : List Str) by decide +kernel))) (fun _ _ _ _ _ _ => (zhi (z0l (zcj (by exact hr.units)) z4u (v2r (q_ix (q_nm 0) (v2r z03))) (q_nm 1)))) (fun _ _ _ _ _ _ => (q_ix (q_nm 0) (v2r z03))))
  (z09 (z2w (z5h (own := ["zone"]) (caps := [(0, "self")]) (z6d (sc := z01 z0k) ["self", "kinds", "zones"] rfl rfl rfl (by decide +kernel)) (z7a (z0c 2)) (fun _ _ _ _ _ _ => (g_nm 0 (show y1v (["zone", "self"] : List Str) by decide +kernel))) (fun _ _ _ _ _ _ => (zhi (w_t (ze3 (z0l (z69 (by exact hr.units)) z6a (v2r (zkg (j := 4) (by exact kcCourse) (by exact zlf hr) (pv 1) (q_nm 0))) (v2r z08)) (z9p (z0l (z3m (by exact hr.units)) z4u (q_nm 0) (z4t (j := 5) (by exact kcCourse) (pv 1)))))))) (fun _ _ _ _ _ _ => (z0c 0))))))
abbrev z0h : Stmt := z1o (top 13) 19
theorem z23 : FnScope ["self", "code", "deed", "zone", "right", "bare"] ["self", "code", "deed", "zone"] (z01 z0h) := ⟨rfl, rfl, rfl, by decide +kernel, rfl, by decide +kernel, by decide +kernel⟩
theorem z5k {K : y00} {f : Addr} {fd : y0b} (F : Fun K "what_is_against" "Course.what_is_against" z0h f fd) : z15 K fd ["self", "code", "deed", "zone"] [] := F.binds (ps := ["self", "code", "deed", "zone"]) fun _ _ _ _ _ _ us hl => match us, hl with | [_, _, _, _], _ => rfl
theorem z2g {k : Nat} {f : Addr} {fd : y0b} (F : Fun K "what_is_against" "Course.what_is_against" z0h f fd) (m : Meth K CCourse "what_is_against" f) (kcCourse : ClOk K 0 CCourse ["plan", "mode", "left", "came", "lines", "shunts", "siren", "alarms", "tries", "locked", "used", "past", "told"]) (z2z : MtRd P w K mg base CCourse "is_untimely" k 3 z0e) (z1y : MtRd P w K mg base CCourse "bare_zones" k 2 z0y) {a_KINDS_SHUT_TO_SET : Addr} (m_KINDS_SHUT_TO_SET : mg "KINDS_SHUT_TO_SET" = some (.ref a_KINDS_SHUT_TO_SET)) (t_KINDS_SHUT_TO_SET : ∃ (o : Obj) (its : Array Value) (n : Nat), K.lookup a_KINDS_SHUT_TO_SET = some o /\ o.cls = .type "tuple" /\ o.data = .seq its n /\ its.size <= y0k /\ Vals ((["day", "once"] : List Str).map V.str) its.toList) : MtRd P w K mg base CCourse "what_is_against" (k + 1) 4 z0z :=
 zf0 F z23 (z5k F) m fun cdv A outer s H E hr =>
  (z04 (z24 4 z23.nd (zsv (z0l (z13 (by exact hr.units)) z14 (q_nm 2) (v2r z08)) z08 (z0c 2)))
  (z04 (s_if (z0l (z3m (by exact hr.units)) z4u (q_nm 4) (v2r (q_ix (q_nm 1) (v2r z03)))) (z09 (z2w (z2a (z00 z08 (z00 (q_ix (q_nm 1) (v2r z03)) z05))))) z2q)
  (z04 (s_if (zny (v2r (zao kcCourse z2z hr (pv 0) (z00 (z0c 2) (z00 (z0c 3) z05))))) (z09 (z2w (z2a (z00 z08 (z00 (q_ix (q_nm 1) (v2r z03)) z05))))) z2q)
  (z04 (z24 5 z23.nd (zao kcCourse z1y hr (pv 0) (z00 (q_gT m_KINDS_SHUT_TO_SET t_KINDS_SHUT_TO_SET) z05)))
  (z04 (s_if (w_t (ze3 (z0l (z13 (by exact hr.units)) z14 (q_nm 2) (v2r z08)) (z9p (zql (q_nm 5))))) (z09 (z2w (z2a (z00 z08 (z00 (q_ix (q_nm 5) (v2r z03)) z05))))) z2q)
  (z09 (z2w zan)))))))
abbrev z0o : Stmt := z1o (top 13) 13
theorem z43 : FnScope ["self", "zone"] ["self"] (z01 z0o) := ⟨rfl, rfl, rfl, by decide +kernel, rfl, by decide +kernel, by decide +kernel⟩
theorem z6y {K : y00} {f : Addr} {fd : y0b} (F : Fun K "end_leaving" "Course.end_leaving" z0o f fd) : z15 K fd ["self"] [] := F.binds (ps := ["self"]) fun _ _ _ _ _ _ us hl => match us, hl with | [_], _ => rfl
theorem z1l {k : Nat} {f : Addr} {fd : y0b} (F : Fun K "end_leaving" "Course.end_leaving" z0o f fd) (m : Meth K CCourse "end_leaving" f) (kcCourse : ClOk K 0 CCourse ["plan", "mode", "left", "came", "lines", "shunts", "siren", "alarms", "tries", "locked", "used", "past", "told"]) (z07 : MtMd P w K mg base CCourse 0 "tell" k 3 z06) (z1y : MtRd P w K mg base CCourse "bare_zones" k 2 z0y) (z11 : MtMd P w K mg base CCourse 0 "alarm" k 2 z0i) {a_KINDS_LEFT_BY : Addr} (m_KINDS_LEFT_BY : mg "KINDS_LEFT_BY" = some (.ref a_KINDS_LEFT_BY)) (t_KINDS_LEFT_BY : ∃ (o : Obj) (its : Array Value) (n : Nat), K.lookup a_KINDS_LEFT_BY = some o /\ o.cls = .type "tuple" /\ o.data = .seq its n /\ its.size <= y0k /\ Vals ((["inner", "way"] : List Str).map V.str) its.toList) : MtMd P w K mg base CCourse 0 "end_leaving" (k + 1) 1 z0p :=
 z3t F z43 (z6y F) m fun cdv A outer s H E hr =>
  (z04 (z1z (j := 1) kcCourse (pv 0) z08)
  (z04 (z1z (j := 2) kcCourse (pv 0) z03)
  (z04 (z2l (z0r kcCourse z07 hr (pv 0) (z00 z08 (z00 zan z05))))
  (z09 (zed y2e (z7a (zao kcCourse z1y hr (pv 0) (z00 (q_gT m_KINDS_LEFT_BY t_KINDS_LEFT_BY) z05))) (g_nm 1 z43.nd)
  (z09 (z2l (z0r kcCourse z11 hr (pv 0) (z00 (z0c 1) z05)))))))))
abbrev z1t : Stmt := z1o (top 13) 22
theorem z9w : FnScope ["self", "who"] ["self", "who"] (z01 z1t) := ⟨rfl, rfl, rfl, by decide +kernel, rfl, by decide +kernel, by decide +kernel⟩
theorem za2 {K : y00} {f : Addr} {fd : y0b} (F : Fun K "do_set" "Course.do_set" z1t f fd) : z15 K fd ["self", "who"] [] := F.binds (ps := ["self", "who"]) fun _ _ _ _ _ _ us hl => match us, hl with | [_, _], _ => rfl
theorem z55 {k : Nat} {f : Addr} {fd : y0b} (F : Fun K "do_set" "Course.do_set" z1t f fd) (m : Meth K CCourse "do_set" f) (kcCourse : ClOk K 0 CCourse ["plan", "mode", "left", "came", "lines", "shunts", "siren", "alarms", "tries", "locked", "used", "past", "told"]) (z07 : MtMd P w K mg base CCourse 0 "tell" k 3 z06) (z1l : MtMd P w K mg base CCourse 0 "end_leaving" k 1 z0p) : MtMd P w K mg base CCourse 0 "do_set" (k + 1) 2 z2e :=
 z3t F z9w (za2 F) m fun cdv A outer s H E hr =>
  (z04 (z96 (j := 7) kcCourse (pv 0) (zii z05))
  (z04 (z1z (j := 6) kcCourse (pv 0) z03)
  (z04 (z1z (j := 1) kcCourse (pv 0) z08)
  (z04 (z1z (j := 2) kcCourse (pv 0) (q_ix (v2r (q_ix (z4t (j := 0) kcCourse (pv 0)) (v2r z03))) (v2r z03)))
  (z04 (z2l (z0r kcCourse z07 hr (pv 0) (z00 z08 (z00 (z0c 1) z05))))
  (z09 (s_if (z0l (zpm.or zaq) zkt (z4t (j := 2) kcCourse (pv 0)) (v2r z03)) (z09 (z2l (z5t kcCourse z1l hr (pv 0)))) z2q)))))))
abbrev z19 : Stmt := z1o (top 13) 23
theorem z88 : FnScope ["self", "who"] ["self", "who"] (z01 z19) := ⟨rfl, rfl, rfl, by decide +kernel, rfl, by decide +kernel, by decide +kernel⟩
theorem z8s {K : y00} {f : Addr} {fd : y0b} (F : Fun K "do_unset" "Course.do_unset" z19 f fd) : z15 K fd ["self", "who"] [] := F.binds (ps := ["self", "who"]) fun _ _ _ _ _ _ us hl => match us, hl with | [_, _], _ => rfl
theorem z40 {k : Nat} {f : Addr} {fd : y0b} (F : Fun K "do_unset" "Course.do_unset" z19 f fd) (m : Meth K CCourse "do_unset" f) (kcCourse : ClOk K 0 CCourse ["plan", "mode", "left", "came", "lines", "shunts", "siren", "alarms", "tries", "locked", "used", "past", "told"]) (z07 : MtMd P w K mg base CCourse 0 "tell" k 3 z06) : MtMd P w K mg base CCourse 0 "do_unset" (k + 1) 2 z2d :=
 z3t F z88 (z8s F) m fun cdv A outer s H E hr =>
  (z04 (z1z (j := 1) kcCourse (pv 0) z08)
  (z04 (z1z (j := 2) kcCourse (pv 0) z03)
  (z04 (z1z (j := 6) kcCourse (pv 0) z03)
  (z04 (z1z (j := 3) kcCourse (pv 0) zan)
  (z04 (z96 (j := 5) kcCourse (pv 0) (zii z05))
  (z09 (z2l (z0r kcCourse z07 hr (pv 0) (z00 z08 (z00 (z0c 1) z05))))))))))
abbrev z1e : Stmt := z1o (top 13) 21
theorem z93 : FnScope ["self", "who", "deed", "zone"] ["self", "who", "deed", "zone"] (z01 z1e) := ⟨rfl, rfl, rfl, by decide +kernel, rfl, by decide +kernel, by decide +kernel⟩
theorem z9k {K : y00} {f : Addr} {fd : y0b} (F : Fun K "do_deed" "Course.do_deed" z1e f fd) : z15 K fd ["self", "who", "deed", "zone"] [] := F.binds (ps := ["self", "who", "deed", "zone"]) fun _ _ _ _ _ _ us hl => match us, hl with | [_, _, _, _], _ => rfl
theorem z4b {k : Nat} {f : Addr} {fd : y0b} (F : Fun K "do_deed" "Course.do_deed" z1e f fd) (m : Meth K CCourse "do_deed" f) (kcCourse : ClOk K 0 CCourse ["plan", "mode", "left", "came", "lines", "shunts", "siren", "alarms", "tries", "locked", "used", "past", "told"]) (z55 : MtMd P w K mg base CCourse 0 "do_set" k 2 z2e) (z40 : MtMd P w K mg base CCourse 0 "do_unset" k 2 z2d) (z_sorted : mg "sorted" = none) (z07 : MtMd P w K mg base CCourse 0 "tell" k 3 z06) : MtMd P w K mg base CCourse 0 "do_deed" (k + 1) 4 z17 :=
 z3t F z93 (z9k F) m fun cdv A outer s H E hr =>
  (z09 (s_if (z0l (z13 (by exact hr.units)) z14 (q_nm 2) (v2r z08)) (z09 (z2l (z0r kcCourse z55 hr (pv 0) (z00 (z0c 1) z05)))) (z09 (s_if (z0l (z13 (by exact hr.units)) z14 (q_nm 2) (v2r z08)) (z09 (z2l (z0r kcCourse z40 hr (pv 0) (z00 (z0c 1) z05)))) (z09 (s_if (z0l (z13 (by exact hr.units)) z14 (q_nm 2) (v2r z08)) (z04 (z96 (j := 5) kcCourse (pv 0) (zkb rfl z_sorted (v2r (z5w (z4t (j := 5) kcCourse (pv 0)) (v2r (zo4 (z00 (z0c 3) z05)))))))
  (z09 (z2l (z0r kcCourse z07 hr (pv 0) (z00 z08 (z00 (z0c 3) z05)))))) (z04 (zsk (j := 5) kcCourse (pv 0) (z0c 3))
  (z09 (z2l (z0r kcCourse z07 hr (pv 0) (z00 z08 (z00 (z0c 3) z05))))))))))))
abbrev z0t : Stmt := z1o (top 13) 18
theorem z4e : FnScope ["self", "code", "deed", "zone", "against"] ["self", "code", "deed", "zone"] (z01 z0t) := ⟨rfl, rfl, rfl, by decide +kernel, rfl, by decide +kernel, by decide +kernel⟩
theorem z7d {K : y00} {f : Addr} {fd : y0b} (F : Fun K "take_right" "Course.take_right" z0t f fd) : z15 K fd ["self", "code", "deed", "zone"] [] := F.binds (ps := ["self", "code", "deed", "zone"]) fun _ _ _ _ _ _ us hl => match us, hl with | [_, _, _, _], _ => rfl
theorem z3c {k : Nat} {f : Addr} {fd : y0b} (F : Fun K "take_right" "Course.take_right" z0t f fd) (m : Meth K CCourse "take_right" f) (kcCourse : ClOk K 0 CCourse ["plan", "mode", "left", "came", "lines", "shunts", "siren", "alarms", "tries", "locked", "used", "past", "told"]) (z2g : MtRd P w K mg base CCourse "what_is_against" k 4 z0z) (z4b : MtMd P w K mg base CCourse 0 "do_deed" k 4 z17) (z07 : MtMd P w K mg base CCourse 0 "tell" k 3 z06) : MtMd P w K mg base CCourse 0 "take_right" (k + 1) 4 z1b :=
 z3t F z4e (z7d F) m fun cdv A outer s H E hr =>
  (z04 (z24 4 z4e.nd (zao kcCourse z2g hr (pv 0) (z00 (z0c 1) (z00 (z0c 2) (z00 (z0c 3) z05)))))
  (z09 (s_if (zqm (q_nm 4)) (z04 (zow (j := 10) kcCourse (zlf hr) (pv 0) (v2r (q_ix (q_nm 1) (v2r z03))) z03)
  (z09 (z2l (z0r kcCourse z4b hr (pv 0) (z00 (q_ix (q_nm 1) (v2r z03)) (z00 (z0c 2) (z00 (z0c 3) z05))))))) (z09 (z2l (z0r kcCourse z07 hr (pv 0) (z00 (q_ix (q_nm 4) (v2r z03)) (z00 (q_ix (q_nm 4) (v2r z03)) z05))))))))
abbrev z2k : Stmt := z1o (top 13) 15
theorem z7k : FnScope ["self", "figures", "deed", "zone", "code"] ["self", "figures", "deed", "zone"] (z01 z2k) := ⟨rfl, rfl, rfl, by decide +kernel, rfl, by decide +kernel, by decide +kernel⟩
theorem zc6 {K : y00} {f : Addr} {fd : y0b} (F : Fun K "code" "Course.code" z2k f fd) : z15 K fd ["self", "figures", "deed", "zone"] [] := F.binds (ps := ["self", "figures", "deed", "zone"]) fun _ _ _ _ _ _ us hl => match us, hl with | [_, _, _, _], _ => rfl
theorem z66 {k : Nat} {f : Addr} {fd : y0b} (F : Fun K "code" "Course.code" z2k f fd) (m : Meth K CCourse "code" f) (kcCourse : ClOk K 0 CCourse ["plan", "mode", "left", "came", "lines", "shunts", "siren", "alarms", "tries", "locked", "used", "past", "told"]) (zbl : Cl P w K mg base "code_of" k 2 z6v) (z07 : MtMd P w K mg base CCourse 0 "tell" k 3 z06) (z3d : MtRd P w K mg base CCourse "is_used_up" k 2 z1c) (z3b : MtMd P w K mg base CCourse 0 "take_wrong" k 1 z1a) (z3c : MtMd P w K mg base CCourse 0 "take_right" k 4 z1b) : MtMd P w K mg base CCourse 0 "code" (k + 1) 4 z20 :=
 z3t F z7k (zc6 F) m fun cdv A outer s H E hr =>
  (z04 (z24 4 z7k.nd (z2b zbl hr (z00 (z4s (j := 0) kcCourse (pv 0)) (z00 (z0c 1) z05))))
  (z09 (s_if (z0l (zks.or z6n) zeo (z4t (j := 9) kcCourse (pv 0)) (v2r z03)) (z09 (z2l (z0r kcCourse z07 hr (pv 0) (z00 z08 (z00 zan z05))))) (z09 (s_if (w_t (w_or (zqm (q_nm 4)) (zbu (zny (v2r (zao kcCourse z3d hr (pv 0) (z00 (z0c 4) z05))))))) (z09 (z2l (z5t kcCourse z3b hr (pv 0)))) (z04 (z1z (j := 8) kcCourse (pv 0) z03)
  (z09 (z2l (z0r kcCourse z3c hr (pv 0) (z00 (z0c 4) (z00 (z0c 2) (z00 (z0c 3) z05))))))))))))
abbrev z0w : Stmt := z1o (top 13) 11
theorem z78 : FnScope ["self", "many"] ["self", "many"] (z01 z0w) := ⟨rfl, rfl, rfl, by decide +kernel, rfl, by decide +kernel, by decide +kernel⟩
theorem z7g {K : y00} {f : Addr} {fd : y0b} (F : Fun K "count_down" "Course.count_down" z0w f fd) : z15 K fd ["self", "many"] [] := F.binds (ps := ["self", "many"]) fun _ _ _ _ _ _ us hl => match us, hl with | [_, _], _ => rfl
theorem z1x {k : Nat} {f : Addr} {fd : y0b} (F : Fun K "count_down" "Course.count_down" z0w f fd) (m : Meth K CCourse "count_down" f) (kcCourse : ClOk K 0 CCourse ["plan", "mode", "left", "came", "lines", "shunts", "siren", "alarms", "tries", "locked", "used", "past", "told"]) (z5o : Cl P w K mg base "lessened" k 2 z3y) : MtMd P w K mg base CCourse 0 "count_down" (k + 1) 2 z0x :=
 z3t F z78 (z7g F) m fun cdv A outer s H E hr =>
  (z04 (zo0 (j := 11) kcCourse (pv 0) (z0c 1))
  (z04 (z1z (j := 9) kcCourse (pv 0) (z2b z5o hr (z00 (z4s (j := 9) kcCourse (pv 0)) (z00 (z0c 1) z05))))
  (z04 (z1z (j := 6) kcCourse (pv 0) (z2b z5o hr (z00 (z4s (j := 6) kcCourse (pv 0)) (z00 (z0c 1) z05))))
  (z09 (z1z (j := 2) kcCourse (pv 0) (z2b z5o hr (z00 (z4s (j := 2) kcCourse (pv 0)) (z00 (z0c 1) z05))))))))
abbrev z0v : Stmt := z1o (top 13) 14
theorem z4f : FnScope ["self", "zone"] ["self"] (z01 z0v) := ⟨rfl, rfl, rfl, by decide +kernel, rfl, by decide +kernel, by decide +kernel⟩
theorem z7f {K : y00} {f : Addr} {fd : y0b} (F : Fun K "end_coming" "Course.end_coming" z0v f fd) : z15 K fd ["self"] [] := F.binds (ps := ["self"]) fun _ _ _ _ _ _ us hl => match us, hl with | [_], _ => rfl
theorem z3e {k : Nat} {f : Addr} {fd : y0b} (F : Fun K "end_coming" "Course.end_coming" z0v f fd) (m : Meth K CCourse "end_coming" f) (kcCourse : ClOk K 0 CCourse ["plan", "mode", "left", "came", "lines", "shunts", "siren", "alarms", "tries", "locked", "used", "past", "told"]) (z11 : MtMd P w K mg base CCourse 0 "alarm" k 2 z0i) : MtMd P w K mg base CCourse 0 "end_coming" (k + 1) 1 z1w :=
 z3t F z4f (z7f F) m fun cdv A outer s H E hr =>
  (z04 (z24 1 z4f.nd (z4s (j := 3) kcCourse (pv 0)))
  (z04 (z1z (j := 1) kcCourse (pv 0) z08)
  (z04 (z1z (j := 3) kcCourse (pv 0) zan)
  (z09 (z2l (z0r kcCourse z11 hr (pv 0) (z00 (z0c 1) z05)))))))
abbrev z18 : Stmt := z1o (top 13) 12
theorem z87 : FnScope ["self"] ["self"] (z01 z18) := ⟨rfl, rfl, rfl, by decide +kernel, rfl, by decide +kernel, by decide +kernel⟩
theorem z8r {K : y00} {f : Addr} {fd : y0b} (F : Fun K "end_time" "Course.end_time" z18 f fd) : z15 K fd ["self"] [] := F.binds (ps := ["self"]) fun _ _ _ _ _ _ us hl => match us, hl with | [_], _ => rfl
theorem z3z {k : Nat} {f : Addr} {fd : y0b} (F : Fun K "end_time" "Course.end_time" z18 f fd) (m : Meth K CCourse "end_time" f) (kcCourse : ClOk K 0 CCourse ["plan", "mode", "left", "came", "lines", "shunts", "siren", "alarms", "tries", "locked", "used", "past", "told"]) (z1l : MtMd P w K mg base CCourse 0 "end_leaving" k 1 z0p) (z3e : MtMd P w K mg base CCourse 0 "end_coming" k 1 z1w) : MtMd P w K mg base CCourse 0 "end_time" (k + 1) 1 z1q :=
 z3t F z87 (z8r F) m fun cdv A outer s H E hr =>
  (z09 (s_if (z0l (z13 (by exact hr.units)) z14 (z4t (j := 1) kcCourse (pv 0)) (v2r z08)) (z09 (z2l (z5t kcCourse z1l hr (pv 0)))) (z09 (z2l (z5t kcCourse z3e hr (pv 0))))))
abbrev z25 : Stmt := z1o (top 13) 10
theorem z6i : FnScope ["self", "many", "rest"] ["self", "many"] (z01 z25) := ⟨rfl, rfl, rfl, by decide +kernel, rfl, by decide +kernel, by decide +kernel⟩
theorem zbm {K : y00} {f : Addr} {fd : y0b} (F : Fun K "ticks" "Course.ticks" z25 f fd) : z15 K fd ["self", "many"] [] := F.binds (ps := ["self", "many"]) fun _ _ _ _ _ _ us hl => match us, hl with | [_, _], _ => rfl
theorem z5i {k : Nat} {f : Addr} {fd : y0b} (F : Fun K "ticks" "Course.ticks" z25 f fd) (m : Meth K CCourse "ticks" f) (kcCourse : ClOk K 0 CCourse ["plan", "mode", "left", "came", "lines", "shunts", "siren", "alarms", "tries", "locked", "used", "past", "told"]) (z1x : MtMd P w K mg base CCourse 0 "count_down" k 2 z0x) (z3z : MtMd P w K mg base CCourse 0 "end_time" k 1 z1q) : MtMd P w K mg base CCourse 0 "ticks" (k + 1) 2 z1p :=
 z3t F z6i (zbm F) m fun cdv A outer s H E hr =>
  (z04 (s_if (z0l (zkr.or z6m) zen (q_nm 1) (v2r z03)) (z09 zgd) z2q)
  (z09 (s_if (w_t (ze3 (z0l (zcj (by exact hr.units)) z4u (z4t (j := 1) kcCourse (pv 0)) (v2r (z2a (z00 z08 (z00 z08 z05))))) (z9p (z0l (zpm.or zaq) zkt (z4t (j := 2) kcCourse (pv 0)) (q_nm 1))))) (z04 (z24 2 z6i.nd (zqy (q_nm 1) (z4t (j := 2) kcCourse (pv 0))))
  (z04 (z2l (z0r kcCourse z1x hr (pv 0) (z00 (z4s (j := 2) kcCourse (pv 0)) z05)))
  (z04 (z2l (z5t kcCourse z3z hr (pv 0)))
  (z09 (z2l (z0r kcCourse z1x hr (pv 0) (z00 (z0c 2) z05))))))) (z09 (z2l (z0r kcCourse z1x hr (pv 0) (z00 (z0c 1) z05)))))))
abbrev z1s : Stmt := z1o (top 13) 2
theorem z9v : FnScope ["self", "event"] ["self", "event"] (z01 z1s) := ⟨rfl, rfl, rfl, by decide +kernel, rfl, by decide +kernel, by decide +kernel⟩
theorem za1 {K : y00} {f : Addr} {fd : y0b} (F : Fun K "happen" "Course.happen" z1s f fd) : z15 K fd ["self", "event"] [] := F.binds (ps := ["self", "event"]) fun _ _ _ _ _ _ us hl => match us, hl with | [_, _], _ => rfl
theorem z54 {k : Nat} {f : Addr} {fd : y0b} (F : Fun K "happen" "Course.happen" z1s f fd) (m : Meth K CCourse "happen" f) (kcCourse : ClOk K 0 CCourse ["plan", "mode", "left", "came", "lines", "shunts", "siren", "alarms", "tries", "locked", "used", "past", "told"]) (z65 : MtMd P w K mg base CCourse 0 "line" k 3 z3p) (z66 : MtMd P w K mg base CCourse 0 "code" k 4 z20) (z5i : MtMd P w K mg base CCourse 0 "ticks" k 2 z1p) : MtMd P w K mg base CCourse 0 "happen" (k + 1) 2 z1d :=
 z3t F z9v (za1 F) m fun cdv A outer s H E hr =>
  (z09 (s_if (z0l (z13 (by exact hr.units)) z14 (v2r (q_ix (q_nm 1) (v2r z03))) (v2r z08)) (z09 (z2l (z0r kcCourse z65 hr (pv 0) (z00 (q_ix (q_nm 1) (v2r z03)) (z00 (q_ix (q_nm 1) (v2r z03)) z05))))) (z09 (s_if (z0l (z13 (by exact hr.units)) z14 (v2r (q_ix (q_nm 1) (v2r z03))) (v2r z08)) (z09 (z2l (z0r kcCourse z66 hr (pv 0) (z00 (q_ix (q_nm 1) (v2r z03)) (z00 (q_ix (q_nm 1) (v2r z03)) (z00 (q_ix (q_nm 1) (v2r z03)) z05)))))) (z09 (z2l (z0r kcCourse z5i hr (pv 0) (z00 (q_ix (q_nm 1) (v2r z03)) z05))))))))
abbrev z39 : Stmt := top 14
theorem z6h : FnScope ["plan", "state", "row", "course", "event"] ["plan", "state", "row"] (z01 z39) := ⟨rfl, rfl, rfl, by decide +kernel, rfl, by decide +kernel, by decide +kernel⟩
theorem zfx {K : y00} {f : Addr} {fd : y0b} (F : Fun K "course_of" "course_of" z39 f fd) : z15 K fd ["plan", "state", "row"] [] := F.binds (ps := ["plan", "state", "row"]) fun _ _ _ _ _ _ us hl => match us, hl with | [_, _, _], _ => rfl
theorem zat (ts : List T) (s : Sl) (h : z2u ts = some s) : ∃ c os, s = .obj .own c os := zmm (b := z80) h
theorem z53 {k : Nat} {f : Addr} {fd : y0b} (F : Fun K "course_of" "course_of" z39 f fd) (m : mg "course_of" = some (.ref f)) (kcCourse : ClOk K 0 CCourse ["plan", "mode", "left", "came", "lines", "shunts", "siren", "alarms", "tries", "locked", "used", "past", "told"]) (c_Course : ClNew P w K mg base "Course" CCourse 0 k 3 z2f) (z54 : MtMd P w K mg base CCourse 0 "happen" k 2 z1d) : ClO P w K mg base "course_of" (k + 2) 3 z2u :=
 zs3 F z6h (zfx F) m fun cdv A outer s H E hr =>
  (z04 (zqr 3 z6h.nd (zt4 kcCourse c_Course hr (z00 (z0c 0) (z00 (z0c 1) z05))))
  (z04 (zed y2e (z7a (z0c 2)) (g_nm 4 z6h.nd)
  (z09 (z2l (z0r kcCourse z54 (hr.mono (Nat.le_succ _)) (pv 3) (z00 (z0c 4) z05)))))
  (z09 (zqp (pv 3)))))
abbrev z7s : Stmt := top 16
theorem zmj : FnScope ["plan", "state", "row"] ["plan", "state", "row"] (z01 z7s) := ⟨rfl, rfl, rfl, by decide +kernel, rfl, by decide +kernel, by decide +kernel⟩
theorem znp {K : y00} {f : Addr} {fd : y0b} (F : Fun K "after" "after" z7s f fd) : z15 K fd ["plan", "state", "row"] [] := F.binds (ps := ["plan", "state", "row"]) fun _ _ _ _ _ _ us hl => match us, hl with | [_, _, _], _ => rfl
theorem zha {k : Nat} {f : Addr} {fd : y0b} (F : Fun K "after" "after" z7s f fd) (m : mg "after" = some (.ref f)) (kcCourse : ClOk K 0 CCourse ["plan", "mode", "left", "came", "lines", "shunts", "siren", "alarms", "tries", "locked", "used", "past", "told"]) (z5j : MtRd P w K mg base CCourse "state" k 1 z33) (z53 : ClO P w K mg base "course_of" k 3 z2u) : Cl P w K mg base "after" (k + 1) 3 zbh :=
 za0 F zmj (znp F) m fun cdv A outer s H E hr =>
  (z09 (z2w (zss kcCourse z5j hr (zob z53 zat hr (z00 (z0c 0) (z00 (z0c 1) (z00 (z0c 2) z05)))))))
abbrev z7r : Stmt := top 17
theorem zmi : FnScope ["plan", "state", "row"] ["plan", "state", "row"] (z01 z7r) := ⟨rfl, rfl, rfl, by decide +kernel, rfl, by decide +kernel, by decide +kernel⟩
theorem znm {K : y00} {f : Addr} {fd : y0b} (F : Fun K "story" "story" z7r f fd) : z15 K fd ["plan", "state", "row"] [] := F.binds (ps := ["plan", "state", "row"]) fun _ _ _ _ _ _ us hl => match us, hl with | [_, _, _], _ => rfl
theorem zh8 {k : Nat} {f : Addr} {fd : y0b} (F : Fun K "story" "story" z7r f fd) (m : mg "story" = some (.ref f)) (kcCourse : ClOk K 0 CCourse ["plan", "mode", "left", "came", "lines", "shunts", "siren", "alarms", "tries", "locked", "used", "past", "told"]) (z_tuple : mg "tuple" = none) (z53 : ClO P w K mg base "course_of" k 3 z2u) : Cl P w K mg base "story" (k + 1) 3 zbg :=
 za0 F zmi (znm F) m fun cdv A outer s H E hr =>
  (z09 (z2w (z7t z_tuple (z3i (v2r (zkd (j := 12) kcCourse (zob z53 zat hr (z00 (z0c 0) (z00 (z0c 1) (z00 (z0c 2) z05)))))) z5g))))
abbrev z38 : Stmt := top 19
theorem zec : FnScope ["_law_script", "_law_k"] ["_law_script", "_law_k"] (z01 z38) := ⟨rfl, rfl, rfl, by decide +kernel, rfl, by decide +kernel, by decide +kernel⟩
theorem zfw {K : y00} {f : Addr} {fd : y0b} (F : Fun K "_law_cell_at" "_law_cell_at" z38 f fd) : z15 K fd ["_law_script", "_law_k"] [] := F.binds (ps := ["_law_script", "_law_k"]) fun _ _ _ _ _ _ us hl => match us, hl with | [_, _], _ => rfl
theorem z7y {k : Nat} {f : Addr} {fd : y0b} (F : Fun K "_law_cell_at" "_law_cell_at" z38 f fd) (m : mg "_law_cell_at" = some (.ref f)) (z_len : mg "len" = none) : Cl P w K mg base "_law_cell_at" (k + 1) 2 z3a :=
 za0 F zec (zfw F) m fun cdv A outer s H E hr =>
  (z04 (s_if (z0l (zkr.or z6m) zen (q_nm 1) (v2r (zmq z_len (z3i (q_nm 0) z5g)))) (z09 (z2w (q_ix (q_nm 0) (q_nm 1)))) z2q)
  (z09 (z2w z03)))
abbrev z4n : Stmt := top 20
theorem zca : FnScope ["_law_script", "_law_k", "_law_drawn_here"] ["_law_script", "_law_k"] (z01 z4n) := ⟨rfl, rfl, rfl, by decide +kernel, rfl, by decide +kernel, by decide +kernel⟩
theorem zjh {K : y00} {f : Addr} {fd : y0b} (F : Fun K "_law_mixed" "_law_mixed" z4n f fd) : z15 K fd ["_law_script", "_law_k"] [] := F.binds (ps := ["_law_script", "_law_k"]) fun _ _ _ _ _ _ us hl => match us, hl with | [_, _], _ => rfl
theorem z8q {k : Nat} {f : Addr} {fd : y0b} (F : Fun K "_law_mixed" "_law_mixed" z4n f fd) (m : mg "_law_mixed" = some (.ref f)) (z7y : Cl P w K mg base "_law_cell_at" k 2 z3a) : Cl P w K mg base "_law_mixed" (k + 1) 2 z50 :=
 za0 F zca (zjh F) m fun cdv A outer s H E hr =>
  (z04 (z24 2 zca.nd (z44 (v2r (zeh (v2r (z5w (v2r (z5w (v2r (z2b z7y hr (z00 (z0c 0) (z00 (z0c 1) z05)))) (v2r (zeh (v2r z03) (q_nm 1))))) (v2r z03))) (v2r z03))) (v2r z03)))
  (z09 (z2w (z44 (v2r (z5w (v2r (z5w (v2r (zeh (q_nm 2) (q_nm 2))) (v2r (zeh (v2r z03) (q_nm 2))))) (q_nm 1))) (v2r z03)))))
abbrev z4p : Stmt := top 21
theorem zcb : FnScope ["_law_number", "_law_k", "_law_drawn_here"] ["_law_number", "_law_k"] (z01 z4p) := ⟨rfl, rfl, rfl, by decide +kernel, rfl, by decide +kernel, by decide +kernel⟩
theorem zjj {K : y00} {f : Addr} {fd : y0b} (F : Fun K "_law_drawn" "_law_drawn" z4p f fd) : z15 K fd ["_law_number", "_law_k"] [] := F.binds (ps := ["_law_number", "_law_k"]) fun _ _ _ _ _ _ us hl => match us, hl with | [_, _], _ => rfl
theorem z52 {k : Nat} {f : Addr} {fd : y0b} (F : Fun K "_law_drawn" "_law_drawn" z4p f fd) (m : mg "_law_drawn" = some (.ref f))  : Cl P w K mg base "_law_drawn" (k + 1) 2 z1v :=
 za0 F zcb (zjj F) m fun cdv A outer s H E hr =>
  (z04 (z24 2 zcb.nd (z44 (v2r (zeh (v2r (z5w (v2r (z5w (q_nm 0) (v2r (zeh (v2r z03) (q_nm 1))))) (v2r z03))) (v2r z03))) (v2r z03)))
  (z09 (z2w (z44 (v2r (z5w (v2r (z5w (v2r (zeh (q_nm 2) (q_nm 2))) (v2r (zeh (v2r z03) (q_nm 2))))) (q_nm 1))) (v2r z03)))))
abbrev z5d : Stmt := top 22
theorem z1r : FnScope ["_law_number", "_law_zones", "_law_k", "_law_name", "_law_drawn_here", "_law_codes", "_law_figures", "_law_rights", "_law_who", "_law_times"] ["_law_number"] (z01 z5d) := ⟨rfl, rfl, rfl, by decide +kernel, rfl, by decide +kernel, by decide +kernel⟩
theorem zlw {K : y00} {f : Addr} {fd : y0b} (F : Fun K "_law_plan" "_law_plan" z5d f fd) : z15 K fd ["_law_number"] [] := F.binds (ps := ["_law_number"]) fun _ _ _ _ _ _ us hl => match us, hl with | [_], _ => rfl
theorem zdy {k : Nat} {f : Addr} {fd : y0b} (F : Fun K "_law_plan" "_law_plan" z5d f fd) (m : mg "_law_plan" = some (.ref f)) (z_enumerate : mg "enumerate" = none) (z52 : Cl P w K mg base "_law_drawn" k 2 z1v) (z_tuple : mg "tuple" = none) (z_range : mg "range" = none) : Cl P w K mg base "_law_plan" (k + 1) 1 zab :=
 za0 F z1r (zlw F) m fun cdv A outer s H E hr =>
  (z04 (z24 1 z1r.nd (z2a z05))
  (z04 (zed y2e (zoh z_enumerate (z2a (z00 z08 (z00 z08 (z00 z08 (z00 z08 (z00 z08 (z00 z08 (z00 z08 (z00 z08 z05)))))))))) (zq4 (zbe (g_nm 2 z1r.nd) (zbe (g_nm 3 z1r.nd) zq5)))
  (z04 (z24 4 z1r.nd (z5n (v2r (z2b z52 hr (z00 (z0c 0) (z00 (z0c 2) z05)))) (v2r z03)))
  (z09 (s_if (w_t (w_or (z0l (zkr.or z6m) zen (v2r (z44 (q_nm 4) (v2r z03))) (v2r (z5w (v2r z03) (v2r (z44 (q_nm 0) (v2r z03)))))) (zbu (z0l (z13 (by exact hr.units)) z14 (q_nm 2) (v2r (z44 (v2r (z5n (q_nm 0) (v2r z03))) (v2r z03))))))) (z09 (z24 1 z1r.nd (z5w (q_nm 1) (v2r (z2a (z00 (z2a (z00 (z0c 3) (z00 (q_ix (v2r (z2a (z00 z08 (z00 z08 (z00 z08 (z00 z08 (z00 z08 z05))))))) (v2r (z44 (v2r (z5n (q_nm 4) (v2r z03))) (v2r z03)))) z05))) z05)))))) z2q))))
  (z04 (z24 5 z1r.nd (z2a z05))
  (z04 (zed y2e (zoh z_enumerate (z2a (z00 z08 (z00 z08 (z00 z08 (z00 z08 (z00 z08 (z00 z08 z05)))))))) (zq4 (zbe (g_nm 2 z1r.nd) (zbe (g_nm 6 z1r.nd) zq5)))
  (z04 (z24 4 z1r.nd (z5n (v2r (z2b z52 hr (z00 (z0c 0) (z00 (z5w (v2r z03) (q_nm 2)) z05)))) (v2r z03)))
  (z09 (s_if (w_t (w_or (z0l (zks.or z6n) zeo (v2r (z44 (q_nm 4) (v2r z03))) (v2r z03)) (zbu (z0l (z13 (by exact hr.units)) z14 (q_nm 2) (v2r z03))))) (z04 (z24 7 z1r.nd (z7t z_tuple (z3i (v2r (z5h (own := ["_law_j"]) (caps := [(4, "_law_drawn_here")]) (z6d (sc := z01 z5d) ["_law_number", "_law_zones", "_law_k", "_law_name", "_law_drawn_here", "_law_codes", "_law_figures", "_law_rights", "_law_who", "_law_times"] rfl rfl rfl (by decide +kernel)) (zle z_range (v2r z03)) (fun _ _ _ _ _ _ => (g_nm 0 (show y1v (["_law_j", "_law_drawn_here"] : List Str) by decide +kernel))) (fun _ _ _ _ _ _ => (zhi (z0l (zks.or z6n) zeo (v2r (z44 (v2r (z5n (q_nm 1) (v2r (q_ix (v2r (z2a (z00 z03 (z00 z03 (z00 z03 z05))))) (q_nm 0))))) (v2r z03))) (v2r z03)))) (fun _ _ _ _ _ _ => (q_ix (v2r (z2a (z00 z08 (z00 z08 (z00 z08 z05))))) (q_nm 0))))) z5g)))
  (z04 (z24 8 z1r.nd (q_ix (v2r (z2a (z00 z08 (z00 z08 (z00 z08 z05))))) (v2r (z44 (v2r (z5n (q_nm 4) (v2r z03))) (v2r z03)))))
  (z09 (z24 5 z1r.nd (z5w (q_nm 5) (v2r (z2a (z00 (z2a (z00 (z0c 6) (z00 (z0c 8) (z00 (z0c 7) (z00 (q_ix (v2r (z2a (z00 z03 (z00 z03 (z00 z03 (z00 z03 (z00 z03 z05))))))) (v2r (z44 (v2r (z5n (q_nm 4) (v2r z03))) (v2r z03)))) z05))))) z05)))))))) z2q))))
  (z04 (z24 4 z1r.nd (z5n (v2r (z2b z52 hr (z00 (z0c 0) (z00 z03 z05)))) (v2r z03)))
  (z04 (z24 9 z1r.nd (z2a (z00 (q_ix (v2r (z2a (z00 z03 (z00 z03 (z00 z03 (z00 z03 z05)))))) (v2r (z44 (q_nm 4) (v2r z03)))) (z00 (q_ix (v2r (z2a (z00 z03 (z00 z03 (z00 z03 (z00 z03 z05)))))) (v2r (z44 (v2r (z5n (q_nm 4) (v2r z03))) (v2r z03)))) (z00 (q_ix (v2r (z2a (z00 z03 (z00 z03 (z00 z03 (z00 z03 z05)))))) (v2r (z44 (v2r (z5n (q_nm 4) (v2r z03))) (v2r z03)))) z05)))))
  (z09 (z2w (z2a (z00 (z0c 1) (z00 (z0c 5) (z00 (z0c 9) z05))))))))))))
abbrev z4o : Stmt := top 23
theorem z4l : FnScope ["_law_plan_here", "_law_number", "_law_zone", "_law_kind", "_law_figures", "_law_deed"] ["_law_plan_here", "_law_number"] (z01 z4o) := ⟨rfl, rfl, rfl, by decide +kernel, rfl, by decide +kernel, by decide +kernel⟩
theorem zji {K : y00} {f : Addr} {fd : y0b} (F : Fun K "_law_event" "_law_event" z4o f fd) : z15 K fd ["_law_plan_here", "_law_number"] [] := F.binds (ps := ["_law_plan_here", "_law_number"]) fun _ _ _ _ _ _ us hl => match us, hl with | [_, _], _ => rfl
theorem zbk {k : Nat} {f : Addr} {fd : y0b} (F : Fun K "_law_event" "_law_event" z4o f fd) (m : mg "_law_event" = some (.ref f)) (z_len : mg "len" = none) : Cl P w K mg base "_law_event" (k + 1) 2 z47 :=
 za0 F z4l (zji F) m fun cdv A outer s H E hr =>
  (z04 (z24 2 z4l.nd (q_ix (v2r (q_ix (v2r (q_ix (q_nm 0) (v2r z03))) (v2r (z44 (v2r (z5n (q_nm 1) (v2r z03))) (v2r (zmq z_len (z3i (v2r (q_ix (q_nm 0) (v2r z03))) z5g))))))) (v2r z03)))
  (z04 (z24 3 z4l.nd (z44 (q_nm 1) (v2r z03)))
  (z04 (s_if (z0l (zkr.or z6m) zen (q_nm 3) (v2r z03)) (z09 (z2w (z2a (z00 z08 (z00 (z0c 2) (z00 (q_ix (v2r (z2a (z00 z08 (z00 z08 (z00 z08 (z00 z08 z05)))))) (v2r (z44 (v2r (z5n (q_nm 1) (v2r z03))) (v2r z03)))) z05)))))) z2q)
  (z04 (s_if (z0l (zkr.or z6m) zen (q_nm 3) (v2r z03)) (z09 (z2w (z2a (z00 z08 (z00 (z5w (v2r z03) (v2r (z44 (v2r (z5n (q_nm 1) (v2r z03))) (v2r (q_ix (v2r (z2a (z00 z03 (z00 z03 (z00 z03 z05))))) (v2r (z44 (v2r (z5n (q_nm 1) (v2r z03))) (v2r z03)))))))) z05))))) z2q)
  (z04 (z24 4 z4l.nd (q_ix (v2r (q_ix (v2r (q_ix (q_nm 0) (v2r z03))) (v2r (z44 (v2r (z5n (q_nm 1) (v2r z03))) (v2r (zmq z_len (z3i (v2r (q_ix (q_nm 0) (v2r z03))) z5g))))))) (v2r z03)))
  (z04 (s_if (z0l (z13 (by exact hr.units)) z14 (v2r (z44 (v2r (z5n (q_nm 1) (v2r z03))) (v2r z03))) (v2r z03)) (z09 (z24 4 z4l.nd (q_ix (v2r (z2a (z00 z08 (z00 z08 (z00 z08 (z00 z08 z05)))))) (v2r (z44 (v2r (z5n (q_nm 1) (v2r z03))) (v2r z03)))))) z2q)
  (z04 (z24 5 z4l.nd (q_ix (v2r (z2a (z00 z08 (z00 z08 (z00 z08 (z00 z08 (z00 z08 (z00 z08 z05)))))))) (v2r (z44 (v2r (z5n (q_nm 1) (v2r z03))) (v2r z03)))))
  (z04 (s_if (z0l (zcj (by exact hr.units)) z4u (q_nm 5) (v2r (z2a (z00 z08 (z00 z08 z05))))) (z09 (z2w (z2a (z00 z08 (z00 (z0c 4) (z00 (z0c 5) (z00 zan z05))))))) z2q)
  (z09 (z2w (z2a (z00 z08 (z00 (z0c 4) (z00 (z0c 5) (z00 (z0c 2) z05)))))))))))))))
abbrev z6k : Stmt := top 24
theorem zda : FnScope ["_law_plan_here", "_law_number", "_law_most", "_law_row_here"] ["_law_plan_here", "_law_number", "_law_most"] (z01 z6k) := ⟨rfl, rfl, rfl, by decide +kernel, rfl, by decide +kernel, by decide +kernel⟩
theorem znn {K : y00} {f : Addr} {fd : y0b} (F : Fun K "_law_row" "_law_row" z6k f fd) : z15 K fd ["_law_plan_here", "_law_number", "_law_most"] [] := F.binds (ps := ["_law_plan_here", "_law_number", "_law_most"]) fun _ _ _ _ _ _ us hl => match us, hl with | [_, _, _], _ => rfl
theorem zh9 {k : Nat} {f : Addr} {fd : y0b} (F : Fun K "_law_row" "_law_row" z6k f fd) (m : mg "_law_row" = some (.ref f)) (z_tuple : mg "tuple" = none) (zbk : Cl P w K mg base "_law_event" k 2 z47) (z_len : mg "len" = none) (z_range : mg "range" = none) (z52 : Cl P w K mg base "_law_drawn" k 2 z1v) : Cl P w K mg base "_law_row" (k + 1) 3 z9d :=
 za0 F zda (znn F) m fun cdv A outer s H E hr =>
  (z04 (z24 3 zda.nd (z7t z_tuple (z3i (v2r (z5h (own := ["_law_k"]) (caps := [(0, "_law_plan_here"), (1, "_law_number")]) (z6d (sc := z01 z6k) ["_law_plan_here", "_law_number", "_law_most", "_law_row_here"] rfl rfl rfl (by decide +kernel)) (zle z_range (v2r (z44 (q_nm 1) (v2r (z5w (q_nm 2) (v2r z03)))))) (fun _ _ _ _ _ _ => (g_nm 0 (show y1v (["_law_k", "_law_plan_here", "_law_number"] : List Str) by decide +kernel))) (fun _ _ _ _ _ _ => z82) (fun _ _ _ _ _ _ => (z2b (by exact zbk) (by exact hr) (z00 (z0c 1) (z00 (z5n (v2r (z2b (by exact z52) (by exact hr) (z00 (z0c 2) (z00 (z5w (v2r z03) (q_nm 0)) z05)))) (v2r z03)) z05)))))) z5g)))
  (z04 (s_if (w_t (ze3 (z0l (z13 (by exact hr.units)) z14 (v2r (z44 (v2r (z5n (q_nm 1) (v2r z03))) (v2r z03))) (v2r z03)) (z9p (z0l (zks.or z6n) zeo (v2r (zmq z_len (z3i (q_nm 3) z5g))) (v2r z03))))) (z09 (z24 3 zda.nd (z5w (v2r (zkc (q_nm 3) zoa (zo9 (v2r (zst (v2r z03)))))) (v2r (zsq (v2r (z2a (z00 (z2a (z00 z08 (z00 z08 (z00 z08 (z00 zan z05))))) z05))) (v2r z03)))))) z2q)
  (z09 (znz 3))))
abbrev z8a : Stmt := top 25
theorem z3l : FnScope ["_law_script", "_law_plan_here", "_law_row_here", "_law_k", "_law_told", "_law_times", "_law_raised", "_law_mode", "_law_names", "_law_people", "_law_time", "_law_word", "_law_name", "_law_last"] ["_law_script"] (z01 z8a) := ⟨rfl, rfl, rfl, by decide +kernel, rfl, by decide +kernel, by decide +kernel⟩
theorem zta {k : Nat} {f : Addr} {fd : y0b} (F : Fun K "law" "law" z8a f fd) (zdy : Cl P w K mg base "_law_plan" k 1 zab) (z_range : mg "range" = none) (zh8 : Cl P w K mg base "story" k 3 zbg) (zha : Cl P w K mg base "after" k 3 zbh) (z8q : Cl P w K mg base "_law_mixed" k 2 z50) (zdz : Cl P w K mg base "begun" k 1 z9e) (z_sorted : mg "sorted" = none) (zh9 : Cl P w K mg base "_law_row" k 3 z9d) (z_list : mg "list" = none) : FnOk P w K mg base CX0 (k + 1) f fd ["_law_script"] (spT K 1 zja) :=
 zoj F z3l fun cdv A outer s H E hr =>
  (z04 (z24 1 z3l.nd (z2b zdy hr (z00 (z2b z8q hr (z00 (z0c 0) (z00 z03 z05))) z05)))
  (z04 (z24 2 z3l.nd (z2a z05))
  (z04 (zed y2e (zle z_range (v2r z03)) (g_nm 3 z3l.nd)
  (z09 (z24 2 z3l.nd (z5w (q_nm 2) (v2r (z2b zh9 hr (z00 (z0c 1) (z00 (z2b z8q hr (z00 (z0c 0) (z00 (z5w (v2r z03) (q_nm 3)) z05))) (z00 z03 z05)))))))))
  (z04 (z24 4 z3l.nd (z2b zh8 hr (z00 (z0c 1) (z00 (z2b zdz hr (z00 (z0c 1) z05)) (z00 (z0c 2) z05)))))
  (z04 (zk3 5 z3l.nd (own := ["_law_one"]) (caps := []) (z6d (sc := z01 z8a) ["_law_script", "_law_plan_here", "_law_row_here", "_law_k", "_law_told", "_law_times", "_law_raised", "_law_mode", "_law_names", "_law_people", "_law_time", "_law_word", "_law_name", "_law_last"] rfl rfl rfl (by decide +kernel)) (z7a (z0c 4)) (fun _ _ _ _ _ _ => (g_nm 0 (show y1v (["_law_one"] : List Str) by decide +kernel))) (fun _ _ _ _ _ _ => z82) (fun _ _ _ _ _ _ => (q_ix (q_nm 0) (v2r z03))))
  (z04 (s_if (z0l (z69 (by exact hr.units)) z6a (q_nm 5) (v2r (zka rfl z_sorted (z3i (q_nm 5) z5g)))) (z09 (z2w q_bl)) z2q)
  (z04 (zo1 6 z3l.nd (zii z05))
  (z04 (z24 7 z3l.nd z08)
  (z04 (z24 8 z3l.nd (z5h (own := ["_law_zone"]) (caps := []) (z6d (sc := z01 z8a) ["_law_script", "_law_plan_here", "_law_row_here", "_law_k", "_law_told", "_law_times", "_law_raised", "_law_mode", "_law_names", "_law_people", "_law_time", "_law_word", "_law_name", "_law_last"] rfl rfl rfl (by decide +kernel)) (z7a (q_ix (q_nm 1) (v2r z03))) (fun _ _ _ _ _ _ => (g_nm 0 (show y1v (["_law_zone"] : List Str) by decide +kernel))) (fun _ _ _ _ _ _ => z82) (fun _ _ _ _ _ _ => (q_ix (q_nm 0) (v2r z03)))))
  (z04 (zk3 9 z3l.nd (own := ["_law_code"]) (caps := []) (z6d (sc := z01 z8a) ["_law_script", "_law_plan_here", "_law_row_here", "_law_k", "_law_told", "_law_times", "_law_raised", "_law_mode", "_law_names", "_law_people", "_law_time", "_law_word", "_law_name", "_law_last"] rfl rfl rfl (by decide +kernel)) (z7a (q_ix (q_nm 1) (v2r z03))) (fun _ _ _ _ _ _ => (g_nm 0 (show y1v (["_law_code"] : List Str) by decide +kernel))) (fun _ _ _ _ _ _ => z82) (fun _ _ _ _ _ _ => (q_ix (q_nm 0) (v2r z03))))
  (z04 (zed y2e (z7a (z0c 4)) (zq4 (zbe (g_nm 10 z3l.nd) (zbe (g_nm 11 z3l.nd) (zbe (g_nm 12 z3l.nd) zq5))))
  (z04 (s_if (z0l (z13 (by exact hr.units)) z14 (q_nm 11) (v2r z08)) (z04 (zo1 6 z3l.nd (zii z05))
  (z04 (s_if (w_t (w_or (z0l (z69 (by exact hr.units)) z6a (q_nm 7) (v2r z08)) (zbu (z0l (z3m (by exact hr.units)) z4u (q_nm 12) (q_nm 9))))) (z09 (z2w q_bl)) z2q)
  (z09 (z24 7 z3l.nd z08)))) z2q)
  (z04 (s_if (z0l (z13 (by exact hr.units)) z14 (q_nm 11) (v2r z08)) (z09 (z24 7 z3l.nd z08)) z2q)
  (z04 (s_if (z0l (z13 (by exact hr.units)) z14 (q_nm 11) (v2r z08)) (z04 (s_if (z0l (z69 (by exact hr.units)) z6a (q_nm 7) (v2r z08)) (z09 (z2w q_bl)) z2q)
  (z09 (z24 7 z3l.nd z08))) z2q)
  (z04 (s_if (w_t (w_or (w_t (ze3 (z0l (z13 (by exact hr.units)) z14 (q_nm 11) (v2r z08)) (z9p (z0l (z13 (by exact hr.units)) z14 (q_nm 7) (v2r z08))))) (zbu (w_t (ze3 (z0l (z13 (by exact hr.units)) z14 (q_nm 11) (v2r z08)) (z9p (z0l (z69 (by exact hr.units)) z6a (q_nm 7) (v2r z08)))))))) (z09 (z2w q_bl)) z2q)
  (z09 (s_if (z0l (z13 (by exact hr.units)) z14 (q_nm 11) (v2r z08)) (z04 (s_if (w_t (w_or (z0l (zcj (by exact hr.units)) z4u (q_nm 12) (q_nm 6)) (zbu (z0l (z3m (by exact hr.units)) z4u (q_nm 12) (q_nm 8))))) (z09 (z2w q_bl)) z2q)
  (z09 (zsl 6 (z0c 12)))) z2q)))))))
  (z04 (z24 13 z3l.nd (z2b zha hr (z00 (z0c 1) (z00 (z2b zdz hr (z00 (z0c 1) z05)) (z00 (z0c 2) z05)))))
  (z04 (s_if (w_t (w_or (z0l (z69 (by exact hr.units)) z6a (v2r (zr0 z_list (z3i (v2r (q_ix (q_nm 13) (v2r z03))) z5g))) (q_nm 6)) (w_or (w_t (ze3 (z0l (z13 (by exact hr.units)) z14 (v2r (q_ix (q_nm 13) (v2r z03))) (v2r z08)) (z9p (z0l (z69 (by exact hr.units)) z6a (q_nm 7) (v2r z08))))) (zbu (w_t (ze3 (z0l (z69 (by exact hr.units)) z6a (v2r (q_ix (q_nm 13) (v2r z03))) (v2r z08)) (z9p (z0l (z13 (by exact hr.units)) z14 (q_nm 7) (v2r z08))))))))) (z09 (z2w q_bl)) z2q)
  (z04 (s_if (z0l (z69 (by exact hr.units)) z6a (v2r (z5h (own := ["_law_name"]) (caps := [(8, "_law_names"), (4, "_law_told")]) (z6d (sc := z01 z8a) ["_law_script", "_law_plan_here", "_law_row_here", "_law_k", "_law_told", "_law_times", "_law_raised", "_law_mode", "_law_names", "_law_people", "_law_time", "_law_word", "_law_name", "_law_last"] rfl rfl rfl (by decide +kernel)) (z7a (q_ix (q_nm 13) (v2r z03))) (fun _ _ _ _ _ _ => (g_nm 0 (show y1v (["_law_name", "_law_names", "_law_told"] : List Str) by decide +kernel))) (fun _ _ _ _ _ _ => by exact (zhi (w_t (w_or (z0l (z3m (by exact hr.units)) z4u (q_nm 0) (q_nm 1)) (zbu (z0l (z3m (by exact hr.units)) z4u (v2r (z2a (z00 z08 (z00 (z0c 0) z05)))) (v2r (z5h (own := ["_law_one"]) (caps := []) (zqb (sc0 := z01 z8a) ["_law_name", "_law_names", "_law_told"] rfl rfl rfl (by decide +kernel)) (z7a (z0c 2)) (fun _ _ _ _ _ _ => (g_nm 0 (show y1v (["_law_one"] : List Str) by decide +kernel))) (fun _ _ _ _ _ _ => z82) (fun _ _ _ _ _ _ => (zkc (q_nm 0) (zo9 (v2r z03)) zoa)))))))))) (fun _ _ _ _ _ _ => by exact (z0c 0)))) (v2r (zo4 z05))) (z09 (z2w q_bl)) z2q)
  (z09 (z2w (zp1 (zap (z13 (by exact hr.units)) z14 (v2r (zqz (v2r (q_ix (q_nm 13) (v2r z03))))) (v2r (zap (z13 (by exact hr.units)) z14 (v2r (q_ix (q_nm 13) (v2r z03))) (v2r z08)))) (zkh (zap (z13 (by exact hr.units)) z14 (v2r (zap (zks.or z6n) zeo (v2r (q_ix (q_nm 13) (v2r z03))) (v2r z03))) (v2r (zap (zcj (by exact hr.units)) z4u (v2r (q_ix (q_nm 13) (v2r z03))) (v2r (z2a (z00 z08 (z00 z08 z05)))))))))))))))))))))))))
end
end K16
end
section
namespace D
open PySem
theorem zn0 (ss : List Str) (h : ∀ x ∈ ss, (y23 x).canLay0 = true) : y1j (ss.map .str) = true /\ y1h (ss.map .str) <= 1 := by
 induction ss with
 | nil => simp [y1j, y1h]
 | cons n ns ih =>
  have h1 := h n (by simp)
  have h2 := ih fun x hx => h x (by simp [hx])
  simp [y1j, y1h, y2d, h1, h2]
theorem zdr (n : Str) : ∀ ns : List Str, hasT (.str n) (ns.map .str) = decide (n ∈ ns)
 | [] => by simp [hasT]
 | m :: ns => by
  have ih := zdr n ns
  unfold hasT at ih ⊢
  rw [y0e, List.any_cons, ih]
  simp [y28, Bool.beq_eq_decide_eq, eq_comm]
theorem zas (n : Int) : okT (.int n) = true := by simp [okT, PyData.canLay0, y2d]
theorem z98 {x : Str} (h : (y23 x).canLay0 = true) : okT (.str x) = true := by simp [okT, y2d, h]
theorem zep (ss : List Str) (h : ∀ x ∈ ss, (y23 x).canLay0 = true) : okL (ss.map .str) = true := by
 have := zn0 ss h
 simp [okL, this.1]
 omega
theorem zps (neg : Bool) (n : Str) (ns : List Str) (h0 : (y23 n).canLay0 = true) (h : ∀ x ∈ ns, (y23 x).canLay0 = true) : oIn neg (.str n) (.tuple (ns.map .str)) = some (.bool (if neg then !decide (n ∈ ns) else decide (n ∈ ns))) := by
 simp only [oIn, z98 h0, zep ns h, zdr, Bool.and_self, if_true]
end D
end
section
namespace Co
open D PySem
structure Cd where
 fig : Str
 who : Str
 rights : List Str
 uses : Int
structure Pl where
 zones : List (Str × Str)
 codes : List Cd
 leave : Int
 come : Int
 loud : Int
structure Cs where
 mode : Str
 left : Int
 came : Option Str
 lines : List (Str × Str)
 shunts : List Str
 siren : Int
 alarms : List Str
 tries : Int
 locked : Int
 used : List (Str × Int)
 past : Int
 told : List (Int × Str × Option Str)
def oS : Option Str -> T
 | none => .none
 | some x => .str x
def encZ (z : Str × Str) : T := .tuple [.str z.1, .str z.2]
def z1i (c : Cd) : T := .tuple [.str c.fig, .str c.who, .tuple (c.rights.map .str), .int c.uses]
def encP (p : Pl) : T := .tuple [.tuple (p.zones.map encZ), .tuple (p.codes.map z1i), .tuple [.int p.leave, .int p.come, .int p.loud]]
def encW (w : Int × Str × Option Str) : T := .tuple [.int w.1, .str w.2.1, oS w.2.2]
def dS (l : List (Str × Str)) : List (D.Key × T) := l.map fun p => (.inr p.1, .str p.2)
def dI (l : List (Str × Int)) : List (D.Key × T) := l.map fun p => (.inr p.1, .int p.2)
def encC (p : Pl) (c : Cs) : List Sl := [.imm (encP p), .imm (.str c.mode), .imm (.int c.left), .imm (oS c.came), .dic (dS c.lines), .own (c.shunts.map .str), .imm (.int c.siren), .own (c.alarms.map .str), .imm (.int c.tries), .imm (.int c.locked), .dic (dI c.used), .imm (.int c.past), .own (c.told.map encW)]
theorem z60 : ¬ (("off" : Str) = "leaving") := by decide +kernel
theorem zn3 : ¬ (("off" : Str) = "on") := by decide +kernel
theorem z2t : ¬ (("off" : Str) = "coming") := by decide +kernel
theorem zdn : ¬ (("leaving" : Str) = "off") := by decide +kernel
theorem zex : ¬ (("leaving" : Str) = "on") := by decide +kernel
theorem z36 : ¬ (("leaving" : Str) = "coming") := by decide +kernel
theorem zdm : ¬ (("on" : Str) = "off") := by decide +kernel
theorem z9q : ¬ (("on" : Str) = "leaving") := by decide +kernel
theorem z4w : ¬ (("on" : Str) = "coming") := by decide +kernel
theorem z9r : ¬ (("coming" : Str) = "off") := by decide +kernel
theorem z9x : ¬ (("coming" : Str) = "leaving") := by decide +kernel
theorem zgs : ¬ (("coming" : Str) = "on") := by decide +kernel
theorem zgm : ¬ (("shut" : Str) = "open") := by decide +kernel
theorem zis : ¬ (("shut" : Str) = "cut") := by decide +kernel
theorem zgn : ¬ (("open" : Str) = "shut") := by decide +kernel
theorem zit : ¬ (("open" : Str) = "cut") := by decide +kernel
theorem zix : ¬ (("cut" : Str) = "shut") := by decide +kernel
theorem ziy : ¬ (("cut" : Str) = "open") := by decide +kernel
theorem zgr : ¬ (("day" : Str) = "inner") := by decide +kernel
theorem ziw : ¬ (("day" : Str) = "once") := by decide +kernel
theorem zkx : ¬ (("day" : Str) = "way") := by decide +kernel
theorem zgq : ¬ (("inner" : Str) = "day") := by decide +kernel
theorem zey : ¬ (("inner" : Str) = "once") := by decide +kernel
theorem zgp : ¬ (("inner" : Str) = "way") := by decide +kernel
theorem ziv : ¬ (("once" : Str) = "day") := by decide +kernel
theorem zev : ¬ (("once" : Str) = "inner") := by decide +kernel
theorem ziu : ¬ (("once" : Str) = "way") := by decide +kernel
theorem zkw : ¬ (("way" : Str) = "day") := by decide +kernel
theorem zgl : ¬ (("way" : Str) = "inner") := by decide +kernel
theorem zir : ¬ (("way" : Str) = "once") := by decide +kernel
theorem zau : ¬ (("set" : Str) = "unset") := by decide +kernel
theorem zav : ¬ (("set" : Str) = "shunt") := by decide +kernel
theorem z9b : ¬ (("set" : Str) = "free") := by decide +kernel
theorem z4v : ¬ (("unset" : Str) = "set") := by decide +kernel
theorem z8j : ¬ (("unset" : Str) = "shunt") := by decide +kernel
theorem z6p : ¬ (("unset" : Str) = "free") := by decide +kernel
theorem z5z : ¬ (("shunt" : Str) = "set") := by decide +kernel
theorem z3o : ¬ (("shunt" : Str) = "unset") := by decide +kernel
theorem zeu : ¬ (("shunt" : Str) = "free") := by decide +kernel
theorem z72 : ¬ (("free" : Str) = "set") := by decide +kernel
theorem z45 : ¬ (("free" : Str) = "unset") := by decide +kernel
theorem z46 : ¬ (("free" : Str) = "shunt") := by decide +kernel
theorem zgo : ¬ (("line" : Str) = "code") := by decide +kernel
theorem zew : ¬ (("line" : Str) = "ticks") := by decide +kernel
theorem zgt : ¬ (("code" : Str) = "line") := by decide +kernel
theorem zez : ¬ (("code" : Str) = "ticks") := by decide +kernel
theorem zes : ¬ (("ticks" : Str) = "line") := by decide +kernel
theorem zet : ¬ (("ticks" : Str) = "code") := by decide +kernel
def tell (w : Str) (n : Option Str) (c : Cs) : Cs := { c with told := c.told ++ [(c.past, w, n)] }
def beLoud (p : Pl) (c : Cs) : Cs := { c with siren := p.loud }
def alarm (p : Pl) (z : Str) (c : Cs) : Cs := if z ∈ c.alarms then beLoud p c else tell "alarm" (some z) { beLoud p c with alarms := c.alarms ++ [z] }
section
variable (p : Pl) (c : Cs)
theorem zni : (encC p c).length = 13 := rfl
theorem e0 : (encC p c)[0]? = some (.imm (encP p)) := rfl
theorem e1 : (encC p c)[1]? = some (.imm (.str c.mode)) := rfl
theorem e2 : (encC p c)[2]? = some (.imm (.int c.left)) := rfl
theorem e3 : (encC p c)[3]? = some (.imm (oS c.came)) := rfl
theorem e4 : (encC p c)[4]? = some (.dic (dS c.lines)) := rfl
theorem e5 : (encC p c)[5]? = some (.own (c.shunts.map .str)) := rfl
theorem e6 : (encC p c)[6]? = some (.imm (.int c.siren)) := rfl
theorem e7 : (encC p c)[7]? = some (.own (c.alarms.map .str)) := rfl
theorem e8 : (encC p c)[8]? = some (.imm (.int c.tries)) := rfl
theorem e9 : (encC p c)[9]? = some (.imm (.int c.locked)) := rfl
theorem e10 : (encC p c)[10]? = some (.dic (dI c.used)) := rfl
theorem e11 : (encC p c)[11]? = some (.imm (.int c.past)) := rfl
theorem e12 : (encC p c)[12]? = some (.own (c.told.map encW)) := rfl
theorem s1 (x : Str) : (encC p c).set 1 (.imm (.str x)) = encC p { c with mode := x } := rfl
theorem s2 (x : Int) : (encC p c).set 2 (.imm (.int x)) = encC p { c with left := x } := rfl
theorem s3 (x : Str) : (encC p c).set 3 (.imm (.str x)) = encC p { c with came := some x } := rfl
theorem s3n : (encC p c).set 3 (.imm .none) = encC p { c with came := none } := rfl
theorem s4 (l : List (Str × Str)) : (encC p c).set 4 (.dic (dS l)) = encC p { c with lines := l } := rfl
theorem s5 (l : List Str) : (encC p c).set 5 (.own (l.map .str)) = encC p { c with shunts := l } := rfl
theorem s5n : (encC p c).set 5 (.own []) = encC p { c with shunts := [] } := rfl
theorem s6 (x : Int) : (encC p c).set 6 (.imm (.int x)) = encC p { c with siren := x } := rfl
theorem s7 (l : List Str) : (encC p c).set 7 (.own (l.map .str)) = encC p { c with alarms := l } := rfl
theorem s7n : (encC p c).set 7 (.own []) = encC p { c with alarms := [] } := rfl
theorem s7a (l : List Str) (z : Str) : (encC p c).set 7 (.own (l.map .str ++ [.str z])) = encC p { c with alarms := l ++ [z] } := by simp [encC]
theorem s8 (x : Int) : (encC p c).set 8 (.imm (.int x)) = encC p { c with tries := x } := rfl
theorem s9 (x : Int) : (encC p c).set 9 (.imm (.int x)) = encC p { c with locked := x } := rfl
theorem s10 (l : List (Str × Int)) : (encC p c).set 10 (.dic (dI l)) = encC p { c with used := l } := rfl
theorem s11 (x : Int) : (encC p c).set 11 (.imm (.int x)) = encC p { c with past := x } := rfl
theorem s12a (l : List (Int × Str × Option Str)) (i : Int) (w : Str) (n : Option Str) : (encC p c).set 12 (.own (l.map encW ++ [.tuple [.int i, .str w, oS n]])) = encC p { c with told := l ++ [(i, w, n)] } := by simp [encC, encW]
end
end Co
open D Co
open PySem hiding run fresh code
local macro_rules
 | `(tactic| simp! [sp1, $xs,*] $[$l]?) => `(tactic| simp [zni, e0, e1, e2, e3, e4, e5, e6, e7, e8, e9, e10, e11, e12, s1, s2, s3, s3n, s4, s5, s5n, s6, s7, s7n, s7a, s8, s9, s10, s11, s12a, runM, runR, z4m, z7m, exX, z1n, z9y, rtnM, zdd, rtnX, asgF, z9o, augF, appF, setF, objF, fld, fldV, fldD, fldL, fGet, zei, zg1, zdl, zgk, asgX, ifE, z84, runF, seq, iff, tstB, tstL, andT, orT, notT, cstT, ofT, op1, op2, opN, args, cst, nm, nmV, rtn, skip, asg, asgN, asgT, par, z0g, z3x, oIsN, z7u, oIx, atZ, ixOf, gNm, gTu, gAll, z2m, comp, z34, $xs,*] $[$l]?)
local macro_rules
 | `(tactic| simp! [sp2, $xs,*] $[$l]?) => `(tactic| simp [runF, seq, iff, tstB, tstL, andT, orT, notT, cstT, ofT, op1, op2, opN, args, cst, nm, nmV, rtn, skip, asg, asgN, asgT, par, z0g, z3x, oIsN, z7u, oIx, atZ, ixOf, gNm, gTu, gAll, z2m, comp, z34, $xs,*] $[$l]?)
 | `(tactic| simp! [sp2] $[$l]?) => `(tactic| simp [runF, seq, iff, tstB, tstL, andT, orT, notT, cstT, ofT, op1, op2, opN, args, cst, nm, nmV, rtn, skip, asg, asgN, asgT, par, z0g, z3x, oIsN, z7u, oIx, atZ, ixOf, gNm, gTu, gAll, z2m, comp, z34] $[$l]?)
local macro_rules
 | `(tactic| simp! [sp3, $xs,*] $[$l]?) => `(tactic| simp [oAdd, oSub, oMul, oDiv, oMod, oNeg, oLen, oMin, oMax, z3n, ziq, oInt, oLt, oLe, oGt, oGe, big, zni, e0, e1, e2, e3, e4, e5, e6, e7, e8, e9, e10, e11, e12, s1, s2, s3, s3n, s4, s5, s5n, s6, s7, s7n, s7a, s8, s9, s10, s11, s12a, runM, runR, z4m, z7m, exX, z1n, z9y, rtnM, zdd, rtnX, asgF, z9o, augF, appF, setF, objF, fld, fldV, fldD, fldL, fGet, zei, zg1, zdl, zgk, asgX, ifE, z84, runF, seq, iff, tstB, tstL, andT, orT, notT, cstT, ofT, op1, op2, opN, args, cst, nm, nmV, rtn, skip, asg, asgN, asgT, par, z0g, z3x, oIsN, z7u, oIx, atZ, ixOf, gNm, gTu, gAll, z2m, comp, z34, $xs,*] $[$l]?)
local macro_rules
 | `(tactic| simp! [sp4, $xs,*] $[$l]?) => `(tactic| simp [runM, runR, z4m, z7m, exX, z1n, z9y, rtnM, zdd, rtnX, asgF, z9o, augF, appF, setF, objF, fld, fldV, fldD, fldL, fGet, zei, zg1, zdl, zgk, asgX, ifE, z84, runF, seq, iff, tstB, tstL, andT, orT, notT, cstT, ofT, op1, op2, opN, args, cst, nm, nmV, rtn, skip, asg, asgN, asgT, par, z0g, z3x, oIsN, z7u, oIx, atZ, ixOf, gNm, gTu, gAll, z2m, comp, z34, $xs,*] $[$l]?)
local macro_rules
 | `(tactic| simp! [sp5, $xs,*] $[$l]?) => `(tactic| simp [zni, e0, e1, e2, e3, e4, e5, e6, e7, e8, e9, e10, e11, e12, s1, s2, s3, s3n, s4, s5, s5n, s6, s7, s7n, s7a, s8, s9, s10, s11, s12a, runM, runR, z4m, z7m, exX, z1n, z9y, rtnM, zdd, rtnX, asgF, z9o, augF, appF, setF, objF, fld, fldV, fldD, fldL, fGet, zei, zg1, zdl, zgk, asgX, ifE, z84, z60, zn3, z2t, zdn, zex, z36, zdm, z9q, z4w, z9r, z9x, zgs, zgm, zis, zgn, zit, zix, ziy, zgr, ziw, zkx, zgq, zey, zgp, ziv, zev, ziu, zkw, zgl, zir, zau, zav, z9b, z4v, z8j, z6p, z5z, z3o, zeu, z72, z45, z46, zgo, zew, zgt, zez, zes, zet, runF, seq, iff, tstB, tstL, andT, orT, notT, cstT, ofT, op1, op2, opN, args, cst, nm, nmV, rtn, skip, asg, asgN, asgT, par, z0g, z3x, oIsN, z7u, oIx, atZ, ixOf, gNm, gTu, gAll, z2m, comp, z34, $xs,*] $[$l]?)
local macro_rules
 | `(tactic| simp! [sp6, $xs,*] $[$l]?) => `(tactic| simp [oAdd, oSub, oMul, oDiv, oMod, oNeg, oLen, oMin, oMax, z3n, ziq, oInt, oLt, oLe, oGt, oGe, big, runF, seq, iff, tstB, tstL, andT, orT, notT, cstT, ofT, op1, op2, opN, args, cst, nm, nmV, rtn, skip, asg, asgN, asgT, par, z0g, z3x, oIsN, z7u, oIx, atZ, ixOf, gNm, gTu, gAll, z2m, comp, z34, $xs,*] $[$l]?)
local macro_rules
 | `(tactic| simp! [sp7, $xs,*] $[$l]?) => `(tactic| simp [runM, runR, z4m, z7m, exX, z1n, z9y, rtnM, zdd, rtnX, asgF, z9o, augF, appF, setF, objF, fld, fldV, fldD, fldL, fGet, zei, zg1, zdl, zgk, asgX, ifE, z84, $xs,*] $[$l]?)
local macro_rules
 | `(tactic| simp! [sp8, $xs,*] $[$l]?) => `(tactic| simp [zni, e0, e1, e2, e3, e4, e5, e6, e7, e8, e9, e10, e11, e12, s1, s2, s3, s3n, s4, s5, s5n, s6, s7, s7n, s7a, s8, s9, s10, s11, s12a, $xs,*] $[$l]?)
local macro_rules
 | `(tactic| simp! [sp9, $xs,*] $[$l]?) => `(tactic| simp [runF, seq, iff, tstB, tstL, andT, orT, notT, cstT, ofT, op1, op2, opN, args, cst, nm, nmV, rtn, skip, asg, asgN, asgT, par, z0g, z3x, oIsN, z7u, gNm, gTu, gAll, z2m, comp, z34, $xs,*] $[$l]?)
 | `(tactic| simp! [sp9] $[$l]?) => `(tactic| simp [runF, seq, iff, tstB, tstL, andT, orT, notT, cstT, ofT, op1, op2, opN, args, cst, nm, nmV, rtn, skip, asg, asgN, asgT, par, z0g, z3x, oIsN, z7u, gNm, gTu, gAll, z2m, comp, z34] $[$l]?)
namespace Co
open D PySem
def okS (x : Str) : Prop := (y23 x).canLay0 = true
theorem z0b {x y : Str} (h1 : okS x) (h2 : okS y) : oEq (.str x) (.str y) = some (.bool (decide (x = y))) := by
 unfold oEq
 rw [z98 h1, z98 h2]
 by_cases e : x = y <;> simp [y28, e]
theorem z3w {x y : Str} (h1 : okS x) (h2 : okS y) : oNe (.str x) (.str y) = some (.bool (!decide (x = y))) := by
 unfold oNe
 rw [z98 h1, z98 h2]
 by_cases e : x = y <;> simp [y28, e]
theorem z4k (neg : Bool) {n : Str} {ns : List Str} (h0 : okS n) (h : ∀ x ∈ ns, okS x) : oIn neg (.str n) (.list (ns.map .str)) = some (.bool (if neg then !decide (n ∈ ns) else decide (n ∈ ns))) := by
 simp only [oIn, z98 h0, zep ns h, zdr]
 rfl
theorem z8h (neg : Bool) {n : Str} {ns : List Str} (h0 : okS n) (h : ∀ x ∈ ns, okS x) : oIn neg (.str n) (.tuple (ns.map .str)) = some (.bool (if neg then !decide (n ∈ ns) else decide (n ∈ ns))) := zps neg n ns h0 h
theorem zjt (p : Pl) (c : Cs) (w : Str) (n : Option Str) (h : c.told.length < big) : z06 [.obj .lent 0 (encC p c), .imm (.str w), .imm (oS n)] = some (.none, encC p (tell w n c)) := by
 have h' : c.told.length < 16777216 := h
 simp! [sp1, z06, z8v, tell, big, h']
theorem z83 (p : Pl) (c : Cs) (w : Str) (h : c.told.length < big) : z06 [.obj .lent 0 (encC p c), .imm (.str w), .imm .none] = some (.none, encC p (tell w none c)) := zjt p c w none h
theorem z3k (p : Pl) (c : Cs) (w z : Str) (h : c.told.length < big) : z06 [.obj .lent 0 (encC p c), .imm (.str w), .imm (.str z)] = some (.none, encC p (tell w (some z) c)) := zjt p c w (some z) h
theorem z9j (p : Pl) (c : Cs) : z1k [.obj .lent 0 (encC p c)] = some (.none, encC p (beLoud p c)) := by
 simp! [sp1, z1k, z6f, beLoud, encP]
structure Wf (p : Pl) (c : Cs) : Prop where
 zn : ∀ z ∈ p.zones, okS z.1 /\ okS z.2
 cn : ∀ k ∈ p.codes, okS k.fig /\ okS k.who /\ ∀ r ∈ k.rights, okS r
 zl : p.zones.length <= 40
 mo : okS c.mode
 ca : ∀ z, c.came = some z -> okS z /\ z ∈ p.zones.map (·.1)
 cm : c.mode = "coming" -> c.came ≠ none
 ln : c.lines.map (·.1) = p.zones.map (·.1)
 lo : ∀ l ∈ c.lines, okS l.2
 us : c.used.map (·.1) = p.codes.map (·.fig)
 sh : c.shunts.Nodup /\ ∀ z ∈ c.shunts, z ∈ p.zones.map (·.1)
 al : c.alarms.Nodup /\ ∀ z ∈ c.alarms, z ∈ p.zones.map (·.1)
theorem Wf.okz {p : Pl} {c : Cs} (h : Wf p c) {z : Str} (hz : z ∈ p.zones.map (·.1)) : okS z := by
 obtain ⟨x, hx, rfl⟩ := y0n.mp hz
 exact (h.zn x hx).1
theorem Wf.oksh {p : Pl} {c : Cs} (h : Wf p c) : ∀ z ∈ c.shunts, okS z := fun z hz => h.okz (h.sh.2 z hz)
theorem Wf.okal {p : Pl} {c : Cs} (h : Wf p c) : ∀ z ∈ c.alarms, okS z := fun z hz => h.okz (h.al.2 z hz)
theorem zeq {α : Type} [BEq α] [LawfulBEq α] {l m : List α} (h : l.Nodup) (hs : ∀ x ∈ l, x ∈ m) : l.length <= m.length := by
 induction l generalizing m with
 | nil => simp
 | cons x l ih =>
  obtain ⟨h1, h2⟩ := y0s.mp h
  have hx := hs x y0f
  have := ih (m := m.erase x) h2 fun y hy => (List.mem_erase_of_ne (fun e : y = x => h1 (e ▸ hy))).mpr (hs y (y05 _ hy))
  have hl := List.length_erase_of_mem hx
  have := List.length_pos_of_mem hx
  simp only [y0x]
  omega
theorem Wf.alLen {p : Pl} {c : Cs} (h : Wf p c) : c.alarms.length <= 40 := by
 have := zeq h.al.1 h.al.2
 have := h.zl
 simp at *
 omega
theorem Wf.shLen {p : Pl} {c : Cs} (h : Wf p c) : c.shunts.length <= 40 := by
 have := zeq h.sh.1 h.sh.2
 have := h.zl
 simp at *
 omega
theorem zae (p : Pl) (c : Cs) (z : Str) (h : Wf p c) (hz : okS z) (ht : c.told.length < big) : z0i [.obj .lent 0 (encC p c), .imm (.str z)] = some (.none, encC p (alarm p z c)) := by
 have ha := h.alLen
 have hin : oIn true (.str z) (.list (c.alarms.map .str)) = some (.bool (!decide (z ∈ c.alarms))) := by rw [z4k true hz h.okal]; rfl
 have hb : (beLoud p c).alarms = c.alarms := rfl
 have hlt : c.alarms.length < 16777216 := by omega
 by_cases hm : z ∈ c.alarms
 ·simp! [sp1, z0i, z5l, z9j, hb, hin, hm, alarm]
 ·have tl : ({ beLoud p c with alarms := c.alarms ++ [z] } : Cs).told.length < big := ht
  simp! [sp1, z0i, z5l, z9j, hb, hin, hm, alarm, big, hlt, z3k p _ "alarm" z tl]
def kindOf (p : Pl) (z : Str) : Str := ((p.zones.find? fun x => decide (x.1 = z)).map (·.2)).getD ""
def zfn (p : Pl) (f : Str) : Option Cd := p.codes.find? fun k => decide (k.fig = f)
theorem zf6 {z : Str} (hz : okS z) (s0 : Option Sl) : ∀ (zs : List (Str × Str)) (t0 : Option Sl), (∀ x ∈ zs, okS x.1) -> z ∈ zs.map (·.1) -> forL (gNm 2) (iff (tstB (op2 oEq (op2 oIx (nm 2) (cst (.int 0))) (nm 1))) (rtn (op2 oIx (nm 2) (cst (.int 1)))) skip) (zs.map encZ) [s0, some (.imm (.str z)), t0] = some (.rt (.str (((zs.find? fun x => decide (x.1 = z)).map (·.2)).getD "")))
 | [], t0, _, h => by simp at h
 | x :: zs, t0, ho, h => by
  have e := z0b (ho x (by simp)) hz
  by_cases hx : x.1 = z
  ·simp! [sp2, forL, encZ, hx, z0b hz hz]
  ·have h' : z ∈ zs.map (·.1) := by
    rw [y0e] at h
    rcases y09.mp h with q | q
    ·exact absurd q.symm hx
    ·exact q
   have ih := zf6 hz s0 zs (some (.imm (encZ x))) (fun y hy => ho y (y05 _ hy)) h'
   simp [encZ] at ih
   simp! [sp2, forL, encZ, hx, e]
   simpa [runF, seq, iff, tstB, tstL, andT, orT, notT, cstT, ofT, op1, op2, opN, args, cst, nm, nmV, rtn, skip, asg, asgN, asgT, par, z0g, z3x, oIsN, z7u, oIx, atZ, ixOf, gNm, gTu, gAll, z2m, comp, z34] using ih
theorem zct {p : Pl} {z : Str} (ho : ∀ x ∈ p.zones, okS x.1 /\ okS x.2) (hz : z ∈ p.zones.map (·.1)) : z51 [encP p, .str z] = some (.str (kindOf p z)) := by
 obtain ⟨x, hx, rfl⟩ := y0n.mp hz
 have := zf6 (ho x hx).1 (some (.imm (encP p))) p.zones none (fun y hy => (ho y hy).1) hz
 simp! [sp2, z51, zfz, for_, encP] at this ⊢
 simp [this, kindOf]
def encO : Option Cd -> T
 | none => .none
 | some k => z1i k
theorem zfm {f : Str} (hf : okS f) (s0 : Option Sl) : ∀ (ks : List Cd) (t0 : Option Sl), (∀ k ∈ ks, okS k.fig) -> forL (gNm 2) (iff (tstB (op2 oEq (op2 oIx (nm 2) (cst (.int 0))) (nm 1))) (rtn (nm 2)) skip) (ks.map z1i) [s0, some (.imm (.str f)), t0] =
   match ks.find? fun k => decide (k.fig = f) with
   | some k => some (.rt (z1i k))
   | none => some (.nx [s0, some (.imm (.str f)), (ks.getLast?.map fun k => Sl.imm (z1i k)).elim t0 some])
 | [], t0, _ => by simp [forL]
 | k :: ks, t0, ho => by
  have e := z0b (ho k (by simp)) hf
  by_cases hx : k.fig = f
  ·simp! [sp2, forL, z1i, hx, z0b hf hf]
  ·have ih := zfm hf s0 ks (some (.imm (z1i k))) (fun y hy => ho y (y05 _ hy))
   simp only [y0e, forL]
   simp! [sp2, z1i, hx, e] at ih ⊢
   rw [ih]
   cases ks with
   | nil => simp
   | cons k' ks => simp [List.getLast?_cons]
theorem zje {p : Pl} {f : Str} (ho : ∀ k ∈ p.codes, okS k.fig) (hf : okS f) : z6v [encP p, .str f] = some (encO (zfn p f)) := by
 have := zfm hf (some (.imm (encP p))) p.codes none ho
 simp! [sp2, z6v, zg0, for_, encP] at this ⊢
 rw [this]
 unfold zfn
 cases e : p.codes.find? fun k => decide (k.fig = f) with
 | none => simp [encO]
 | some k => simp [encO]
def z6q (c : Cs) (z : Str) : Str := (c.lines.lookup z).getD ""
def setL (l : List (Str × Str)) (z w : Str) : List (Str × Str) := l.map fun p => if p.1 = z then (z, w) else p
def znw (c : Cs) (f : Str) : Int := (c.used.lookup f).getD 0
def addU (l : List (Str × Int)) (f : Str) : List (Str × Int) := l.map fun p => if p.1 = f then (f, p.2 + 1) else p
theorem zoi {z : Str} : ∀ {l : List (Str × Str)}, z ∈ l.map (·.1) -> getD (dS l) (.inr z) = some (.str ((l.lookup z).getD ""))
  | [], h => by simp at h
  | (k, v) :: l, h => by
    by_cases e : k = z
    · subst e
      simp [getD, dS, y1n]
    · have h' : z ∈ l.map (·.1) := by
        rw [y0e] at h
        rcases y09.mp h with q | q
        · exact absurd q.symm e
        · exact q
      have ih := zoi h'
      have ne : (z == k) = false := beq_eq_false_iff_ne.mpr (Ne.symm e)
      simp only [getD, dS, y0e, y1x] at ih ⊢
      rw [decide_eq_false (fun q => e (Sum.inr.inj q))]
      simp only [y1n, ne]
      exact ih
theorem zlj {z : Str} : ∀ {l : List (Str × Int)}, z ∈ l.map (·.1) -> getD (dI l) (.inr z) = some (.int ((l.lookup z).getD 0))
  | [], h => by simp at h
  | (k, v) :: l, h => by
    by_cases e : k = z
    · subst e
      simp [getD, dI, y1n]
    · have h' : z ∈ l.map (·.1) := by
        rw [y0e] at h
        rcases y09.mp h with q | q
        · exact absurd q.symm e
        · exact q
      have ih := zlj h'
      have ne : (z == k) = false := beq_eq_false_iff_ne.mpr (Ne.symm e)
      simp only [getD, dI, y0e, y1x] at ih ⊢
      rw [decide_eq_false (fun q => e (Sum.inr.inj q))]
      simp only [y1n, ne]
      exact ih
theorem ztd {z : Str} {l : List (Str × Str)} (h : z ∈ l.map (·.1)) : (dS l).any (fun p => decide (p.1 = (Sum.inr z : D.Key))) = true := by
 obtain ⟨x, hx, rfl⟩ := y0n.mp h
 rw [List.any_eq_true]
 exact ⟨(.inr x.1, .str x.2), y0n.mpr ⟨x, hx, rfl⟩, by simp⟩
theorem zte {z : Str} {l : List (Str × Int)} (h : z ∈ l.map (·.1)) : (dI l).any (fun p => decide (p.1 = (Sum.inr z : D.Key))) = true := by
 obtain ⟨x, hx, rfl⟩ := y0n.mp h
 rw [List.any_eq_true]
 exact ⟨(.inr x.1, .int x.2), y0n.mpr ⟨x, hx, rfl⟩, by simp⟩
theorem zr5 {z w : Str} {l : List (Str × Str)} (h : z ∈ l.map (·.1)) : putD (dS l) (.inr z) (.str w) = dS (setL l z w) := by
 unfold putD
 rw [ztd h, if_pos rfl]
 simp only [dS, setL, List.map_map]
 refine List.map_congr_left fun x _ => ?_
 by_cases e : x.1 = z
 ·simp [e]
 ·have : ¬ (Sum.inr x.1 : D.Key) = Sum.inr z := fun q => e (Sum.inr.inj q)
  simp [e, this]
theorem zr6 {z : Str} {l : List (Str × Int)} (h : z ∈ l.map (·.1)) (nd : (l.map (·.1)).Nodup) : putD (dI l) (.inr z) (.int ((l.lookup z).getD 0 + 1)) = dI (addU l z) := by
 unfold putD
 rw [zte h, if_pos rfl]
 simp only [dI, addU, List.map_map]
 refine List.map_congr_left fun x hx => ?_
 by_cases e : x.1 = z
 ·have : ∀ {l : List (Str × Int)}, x ∈ l -> (l.map (·.1)).Nodup -> l.lookup x.1 = some x.2 := by
   intro l
   induction l with
   | nil => intro h; simp at h
   | cons y l ih =>
    intro h nd
    rcases y09.mp h with rfl | h
    ·simp [y1n]
    ·rw [y0e, y0s] at nd
     have ne : (x.1 == y.1) = false := beq_eq_false_iff_ne.mpr fun q => nd.1 (q ▸ y0n.mpr ⟨x, h, rfl⟩)
     simp only [y1n, ne]
     exact ih h nd.2
  have hl := this hx nd
  subst e
  simp [hl]
 ·have : ¬ (Sum.inr x.1 : D.Key) = Sum.inr z := fun q => e (Sum.inr.inj q)
  simp [e, this]
theorem z8o {α : Type} {cc : Ft} {ee : Fe} {caps : Ev} (enc : α -> T) (q : α -> Bool) (f : α -> T) : ∀ (ts : List α) (s0 : Option Sl), (∀ a ∈ ts, cc (some (.imm (enc a)) :: caps) = some (q a) /\ (q a = true -> ee (some (.imm (enc a)) :: caps) = some (f a))) -> z48 (gNm 0) cc ee (ts.map enc) (s0 :: caps) = some ((ts.filter q).map f)
 | [], _, _ => rfl
 | a :: ts, s0, h => by
  obtain ⟨h1, h2⟩ := h a (by simp)
  have ih := z8o enc q f ts (some (.imm (enc a))) fun b hb => h b (y05 _ hb)
  simp only [y0e, z48, gNm, y1l, y0q, h1]
  cases hq : q a with
  | false => simp [ih, hq]
  | true => simp [ih, hq, h2 hq]
def bare (p : Pl) (kinds : List Str) (c : Cs) : List Str := ((p.zones.filter fun z => decide (z.2 ∈ kinds)).map (·.1)).filter fun z => decide (z6q c z ≠ "shut") && !decide (z ∈ c.shunts)
theorem z02 (x : Str) (h : (y23 x).canLay0 = true := by decide +kernel) : okS x := h
theorem zcq {α : Type} {z : Str} : ∀ {l : List (Str × α)} {v : α}, l.lookup z = some v -> (z, v) ∈ l
  | [], v, h => by cases h
  | (k, x) :: l, v, h => by
    rw [y1i] at h
    split at h
    next q =>
      cases h
      have : z = k := by simpa using q
      subst this
      simp
    next => exact y05 _ (zcq h)
theorem Wf.okl {p : Pl} {c : Cs} (h : Wf p c) (z : Str) : okS (z6q c z) := by
 unfold z6q
 cases e : c.lines.lookup z with
 | none => exact z02 ""
 | some v => exact h.lo _ (zcq e)
theorem Wf.lin {p : Pl} {c : Cs} (h : Wf p c) {z : Str} (hz : z ∈ p.zones.map (·.1)) : getD (dS c.lines) (.inr z) = some (.str (z6q c z)) := zoi (by rw [h.ln]; exact hz)
theorem zlx (p : Pl) (c : Cs) (ks : List Str) (m : Md) (h : Wf p c) (hk : ∀ k ∈ ks, okS k) : z0y [.obj m 0 (encC p c), .imm (.tuple (z84 ks))] = some (.list ((bare p ks c).map .str)) := by
 have hzl := h.zl
 have c1 := z8o (cc := tstB (op2 (oIn false) (op2 oIx (nm 0) (cst (.int 1))) (nm 1))) (ee := op2 oIx (nm 0) (cst (.int 0))) (caps := [some (.imm (.tuple (z84 ks)))]) encZ (fun z => decide (z.2 ∈ ks)) (fun z => .str z.1) p.zones none fun z hz => by
  have := z8h false (h.zn z hz).2 hk
  simp at this
  constructor
  ·simp! [sp2, encZ, z84, this]
  ·intro _
   simp! [sp2, encZ]
 have c2 := z8o (cc := andT (tstB (op2 oNe (fGet 0 1 4 (nm 0)) (cst (.str "shut")))) (tstB (op2 (oIn true) (nm 0) (fld 0 1 5)))) (ee := nmV 0) (caps := [some (.obj m 0 (encC p c))]) y23 (fun z => decide (z6q c z ≠ "shut") && !decide (z ∈ c.shunts)) y23 ((p.zones.filter fun z => decide (z.2 ∈ ks)).map (·.1)) none fun z hz => by
  have hzn : z ∈ p.zones.map (·.1) := by
   obtain ⟨x, hx, rfl⟩ := y0n.mp hz
   exact y0n.mpr ⟨x, (List.mem_filter.mp hx).1, rfl⟩
  have e1 := h.lin hzn
  have e2 := z3w (h.okl z) (z02 "shut")
  have e3 := z4k true (h.okz hzn) h.oksh
  simp at e3
  constructor
  ·by_cases hs : z6q c z = "shut"
   ·simp! [sp1, z5a, e1, e2, hs, z3w (z02 "shut") (z02 "shut")]
   ·simp! [sp1, z5a, e1, e2, e3, hs]
  ·intro _
   simp! [sp2]
 have l1 : (p.zones.map encZ).length <= 16777216 := by simp; omega
 have l2 : (((p.zones.filter fun z => decide (z.2 ∈ ks)).map fun z => y23 z.1)).length <= 16777216 := by
  rw [y16]
  have := y2f (fun z : Str × Str => decide (z.2 ∈ ks)) p.zones
  omega
 simp only [List.map_map, y19] at c2
 simp only [z0y, z59, runR, z4m]
 simp! [sp1, encP] at c1 c2 ⊢
 have hb1 : p.zones.length <= big := by unfold big; omega
 have hb2 : (p.zones.filter fun z => decide (z.2 ∈ ks)).length <= big := by
  have := y2f (fun z : Str × Str => decide (z.2 ∈ ks)) p.zones
  omega
 rw [if_pos hb1, c1]
 simp only [y1w, y0q, List.getElem?_cons_succ, List.getElem?_cons_zero, Function.comp_apply, y16, hb2, if_true, Option.join_some]
 rw [c2]
 simp [bare]
def comeIn (p : Pl) (z k : Str) (c : Cs) : Cs := if k ≠ "way" \/ p.come <= 0 then alarm p z c else tell "coming" (some z) { c with mode := "coming", left := p.come, came := some z }
def disturb (p : Pl) (z w : Str) (c : Cs) : Cs :=
 if kindOf p z = "day" then alarm p z c
 else if c.mode = "off" then (if w = "cut" then tell "fault" (some z) c else c)
 else if w = "cut" \/ kindOf p z = "once" then alarm p z c
 else if c.mode = "on" then comeIn p z (kindOf p z) c else c
def line (p : Pl) (z w : Str) (c : Cs) : Cs :=
 if w = z6q c z then c
 else if w = "shut" then (if z6q c z = "cut" then tell "mended" (some z) { c with lines := setL c.lines z w } else { c with lines := setL c.lines z w })
 else if z ∈ c.shunts then { c with lines := setL c.lines z w } else disturb p z w { c with lines := setL c.lines z w }
theorem zjd (p : Pl) (c : Cs) (z k : Str) (h : Wf p c) (hz : okS z) (hk : okS k) (ht : c.told.length < big) : z1j [.obj .lent 0 (encC p c), .imm (.str z), .imm (.str k)] = some (.none, encC p (comeIn p z k c)) := by
 have e := z3w hk (z02 "way")
 have ea := zae p c z h hz ht
 by_cases h1 : k = "way"
 ·by_cases h2 : p.come <= 0
  ·simp! [sp3, z1j, z37, encP, e, h1, h2, ea, comeIn]
   simp! [sp4, z3w (z02 "way") (z02 "way"), ea, h2]
  ·have et := z3k p { c with mode := "coming", left := p.come, came := some z } "coming" z ht
   simp! [sp3, z1j, z37, encP, h1, h2, comeIn]
   simp! [sp3, z3w (z02 "way") (z02 "way"), et, h2, encP]
 ·simp! [sp3, z1j, z37, encP, e, h1, ea, comeIn]
theorem zj9 (p : Pl) (c : Cs) (z w : Str) (h : Wf p c) (hz : z ∈ p.zones.map (·.1)) (hw : okS w) (ht : c.told.length < big) : z2n [.obj .lent 0 (encC p c), .imm (.str z), .imm (.str w)] = some (.none, encC p (disturb p z w c)) := by
 have ek := zct h.zn hz
 have hkk : okS (kindOf p z) := by
  unfold kindOf
  cases e : p.zones.find? fun x => decide (x.1 = z) with
  | none => exact z02 ""
  | some x => exact (h.zn x (List.mem_of_find?_eq_some e)).2
 have ea := zae p c z h (h.okz hz) ht
 have et := z3k p c "fault" z ht
 have ec := zjd p c z (kindOf p z) h (h.okz hz) hkk ht
 have q1 := z0b hkk (z02 "day")
 have q2 := z0b h.mo (z02 "off")
 have q3 := z0b hw (z02 "cut")
 have q4 := z0b hkk (z02 "once")
 have q5 := z0b h.mo (z02 "on")
 simp only [z2n, z6e, disturb]
 by_cases h1 : kindOf p z = "day"
 ·simp! [sp5, ek, q1, h1, ea]
  simp! [sp4, z0b (z02 "day") (z02 "day"), ea]
 ·by_cases h2 : c.mode = "off"
  ·by_cases h3 : w = "cut"
   ·simp! [sp5, ek, q1, h1, q2, h2, q3, h3, et, z0b (z02 "off") (z02 "off"), z0b (z02 "cut") (z02 "cut")]
   ·simp! [sp5, ek, q1, h1, q2, h2, q3, h3, et, z0b (z02 "off") (z02 "off")]
  ·by_cases h3 : w = "cut"
   ·simp! [sp5, ek, q1, h1, q2, h2, q3, h3, ea, z0b (z02 "cut") (z02 "cut")]
   ·by_cases h4 : kindOf p z = "once"
    ·simp! [sp5, ek, q1, h1, q2, h2, q3, h3, q4, h4, ea, z0b (z02 "once") (z02 "once"), z0b (z02 "once") (z02 "day")]
    ·by_cases h5 : c.mode = "on"
     ·simp! [sp5, ek, q1, h1, q2, h2, q3, h3, q4, h4, q5, h5, ec, z0b (z02 "on") (z02 "on"), z0b (z02 "on") (z02 "off")]
     ·simp! [sp5, ek, q1, h1, q2, h2, q3, h3, q4, h4, q5, h5, ec]
theorem zk0 (l : List (Str × Str)) (z w : Str) : (setL l z w).map (·.1) = l.map (·.1) := by
 unfold setL
 rw [List.map_map]
 refine List.map_congr_left fun x _ => ?_
 by_cases e : x.1 = z <;> simp [e]
theorem zm1 (l : List (Str × Int)) (z : Str) : (addU l z).map (·.1) = l.map (·.1) := by
 unfold addU
 rw [List.map_map]
 refine List.map_congr_left fun x _ => ?_
 by_cases e : x.1 = z <;> simp [e]
theorem Wf.setLine {p : Pl} {c : Cs} (h : Wf p c) (z : Str) {w : Str} (hw : okS w) : Wf p { c with lines := setL c.lines z w } :=
 ⟨h.zn, h.cn, h.zl, h.mo, h.ca, h.cm, (zk0 _ _ _).trans h.ln, fun l hl => by
  obtain ⟨x, hx, rfl⟩ := y0n.mp hl
  by_cases e : x.1 = z
  ·rw [if_pos e]
   exact hw
  ·rw [if_neg e]
   exact h.lo x hx, h.us, h.sh, h.al⟩
theorem Wf.tell {p : Pl} {c : Cs} (h : Wf p c) (w : Str) (n : Option Str) : Wf p (Co.tell w n c) := ⟨h.zn, h.cn, h.zl, h.mo, h.ca, h.cm, h.ln, h.lo, h.us, h.sh, h.al⟩
theorem Wf.loud {p : Pl} {c : Cs} (h : Wf p c) : Wf p (beLoud p c) := ⟨h.zn, h.cn, h.zl, h.mo, h.ca, h.cm, h.ln, h.lo, h.us, h.sh, h.al⟩
theorem Wf.alarm {p : Pl} {c : Cs} (h : Wf p c) {z : Str} (hz : z ∈ p.zones.map (·.1)) : Wf p (Co.alarm p z c) := by
 unfold Co.alarm
 split
 ·exact h.loud
 next hm =>
  refine Wf.tell (c := { beLoud p c with alarms := c.alarms ++ [z] }) ⟨h.zn, h.cn, h.zl, h.mo, h.ca, h.cm, h.ln, h.lo, h.us, h.sh, ?_, ?_⟩ _ _
  ·show (c.alarms ++ [z]).Nodup
   rw [y1r]
   exact ⟨h.al.1, by simp, fun a ha b hb e => hm (by simp at hb; subst hb; exact e ▸ ha)⟩
  ·intro y hy
   rcases y13.mp hy with q | q
   ·exact h.al.2 y q
   ·simp at q
    exact q ▸ hz
theorem z5r (p : Pl) (z : Str) (c : Cs) : (alarm p z c).told.length <= c.told.length + 1 := by
 unfold alarm tell beLoud
 split <;> simp
theorem zpu (p : Pl) (c : Cs) (z w : Str) (h : Wf p c) (hz : z ∈ p.zones.map (·.1)) (hw : okS w) (ht : c.told.length < big) : z3p [.obj .lent 0 (encC p c), .imm (.str z), .imm (.str w)] = some (.none, encC p (line p z w c)) := by
 have e1 := h.lin hz
 have hzl : z ∈ c.lines.map (·.1) := by rw [h.ln]; exact hz
 have e2 := zr5 (w := w) hzl
 have q1 := z0b hw (h.okl z)
 have q2 := z0b hw (z02 "shut")
 have q3 := z0b (h.okl z) (z02 "cut")
 have q4 := z4k true (h.okz hz) h.oksh
 simp at q4
 have hlen : (dS c.lines).length < 16777216 := by
  have := congrArg List.length h.ln
  have := h.zl
  simp [dS] at *
  omega
 have hd := zj9 p _ z w (h.setLine z hw) hz hw ht
 have et := z3k p { c with lines := setL c.lines z w } "mended" z ht
 simp only [z3p, z8w, line]
 by_cases h1 : w = z6q c z
 ·simp! [sp5, z5a, e1, q1, h1, z0b (h.okl z) (h.okl z)]
 ·by_cases h2 : w = "shut"
  ·subst h2
   by_cases h3 : z6q c z = "cut"
   ·simp! [sp5, big, z5a, e1, e2, q1, h1, q2, q3, h3, hlen, et, z0b (z02 "cut") (z02 "cut"), z0b (z02 "shut") (z02 "shut"), z0b (z02 "shut") (z02 "cut")]
   ·simp! [sp5, big, z5a, e1, e2, q1, h1, q2, q3, h3, hlen, z0b (z02 "shut") (z02 "shut")]
  ·by_cases h4 : z ∈ c.shunts
   ·simp! [sp5, big, z5a, e1, e2, q1, h1, q2, h2, q4, h4, hlen]
   ·simp! [sp5, big, z5a, e1, e2, q1, h1, q2, h2, q4, h4, hlen, hd]
def less (a n : Int) : Int := if 0 > a - n then 0 else a - n
def z21 (n : Int) (c : Cs) : Cs := { c with past := c.past + n, locked := less c.locked n, siren := less c.siren n, left := less c.left n }
theorem zgv (a n : Int) : z3y [.int a, .int n] = some (.int (less a n)) := by
 simp! [sp6, z3y, zcz, less]
theorem z64 (p : Pl) (c : Cs) (n : Int) : z0x [.obj .lent 0 (encC p c), .imm (.int n)] = some (.none, encC p (z21 n c)) := by
 simp! [sp1, z0x, z58, zgv, z21]
def alarms (p : Pl) (zs : List Str) (c : Cs) : Cs := zs.foldl (fun c z => alarm p z c) c
def endLeaving (p : Pl) (c : Cs) : Cs := alarms p (bare p ["inner", "way"] (tell "on" none { c with mode := "on", left := 0 })) (tell "on" none { c with mode := "on", left := 0 })
def endComing (p : Pl) (c : Cs) : Cs := alarm p (c.came.getD "") { c with mode := "on", came := none }
def endTime (p : Pl) (c : Cs) : Cs := if c.mode = "leaving" then endLeaving p c else endComing p c
def ticks (p : Pl) (n : Int) (c : Cs) : Cs :=
 if n < 1 then c else if (c.mode = "leaving" \/ c.mode = "coming") /\ c.left <= n then z21 (n - c.left) (endTime p (z21 c.left c)) else z21 n c
theorem zd0 (p : Pl) : ∀ (zs : List Str) (c : Cs) (s1 : Option Sl), Wf p c -> (∀ z ∈ zs, z ∈ p.zones.map (·.1)) -> c.told.length + zs.length < big -> ∃ s1', forL (gNm 1) (exX (z1n 0 z0i 0 [(nmV 1)])) (zs.map .str) [some (.obj .lent 0 (encC p c)), s1] = some (.nx [some (.obj .lent 0 (encC p (alarms p zs c))), s1'])
 | [], c, s1, _, _, _ => ⟨s1, by simp [forL, alarms]⟩
 | z :: zs, c, s1, h, hz, ht => by
  have hzz := hz z (by simp)
  have ea := zae p c z h (h.okz hzz) (by simp at ht; omega)
  have := z5r p z c
  obtain ⟨s1', ih⟩ := zd0 p zs (alarm p z c) (some (.imm (.str z))) (h.alarm hzz) (fun y hy => hz y (y05 _ hy)) (by simp at ht; omega)
  refine ⟨s1', ?_⟩
  rw [y0e, forL]
  simp! [sp4, ea]
  simpa [runF, seq, iff, tstB, tstL, andT, orT, notT, cstT, ofT, op1, op2, opN, args, cst, nm, nmV, rtn, skip, asg, asgN, asgT, par, z0g, z3x, oIsN, z7u, oIx, atZ, ixOf, gNm, gTu, gAll, z2m, comp, z34, alarms] using ih
theorem z8u {p : Pl} {ks : List Str} {c : Cs} {z : Str} (h : z ∈ bare p ks c) : z ∈ p.zones.map (·.1) := by
 unfold bare at h
 obtain ⟨x, hx, rfl⟩ := y0n.mp (List.mem_filter.mp h).1
 exact y0n.mpr ⟨x, (List.mem_filter.mp hx).1, rfl⟩
theorem zi7 (p : Pl) (ks : List Str) (c : Cs) : (bare p ks c).length <= p.zones.length := by
 unfold bare
 have h1 := y2f (fun z => decide (z6q c z ≠ "shut") && !decide (z ∈ c.shunts)) ((p.zones.filter fun z => decide (z.2 ∈ ks)).map (·.1))
 have h2 := y2f (fun z : Str × Str => decide (z.2 ∈ ks)) p.zones
 rw [y16] at h1
 omega
theorem Wf.on {p : Pl} {c : Cs} (h : Wf p c) (x : Int) : Wf p { c with mode := "on", left := x } := ⟨h.zn, h.cn, h.zl, z02 "on", h.ca, fun e => absurd e z4w, h.ln, h.lo, h.us, h.sh, h.al⟩
theorem z7o (p : Pl) (c : Cs) (h : Wf p c) (ht : c.told.length + 50 < big) : z0p [.obj .lent 0 (encC p c)] = some (.none, encC p (endLeaving p c)) := by
 have w1 := (h.on 0).tell "on" none
 have et := z83 p { c with mode := "on", left := 0 } "on" (by show c.told.length < big; omega)
 have eb := zlx p (tell "on" none { c with mode := "on", left := 0 }) ["inner", "way"] .ro w1 (by
  intro k hk
  simp at hk
  rcases hk with rfl | rfl
  ·exact z02 "inner"
  ·exact z02 "way")
 have hl := zi7 p ["inner", "way"] (tell "on" none { c with mode := "on", left := 0 })
 have hz := h.zl
 obtain ⟨s1', lp⟩ := zd0 p (bare p ["inner", "way"] (tell "on" none { c with mode := "on", left := 0 })) (tell "on" none { c with mode := "on", left := 0 }) none w1 (fun z hz => z8u hz) (by
  have : (tell "on" none { c with mode := "on", left := 0 } : Cs).told.length = c.told.length + 1 := by simp [tell]
  omega)
 simp only [z84, y0e, y1c] at eb
 simp! [sp1, z0p, z4h, et, eb, for_]
 rw [lp]
 simp! [sp7, endLeaving]
theorem Wf.onComing {p : Pl} {c : Cs} (h : Wf p c) : Wf p { c with mode := "on", came := none } := ⟨h.zn, h.cn, h.zl, z02 "on", fun z e => (nomatch e), fun e => absurd e z4w, h.ln, h.lo, h.us, h.sh, h.al⟩
theorem zdu (p : Pl) (c : Cs) (h : Wf p c) (hc : c.came ≠ none) (ht : c.told.length < big) : z1w [.obj .lent 0 (encC p c)] = some (.none, encC p (endComing p c)) := by
 obtain ⟨z, hz⟩ := Option.ne_none_iff_exists'.mp hc
 have ea := zae p { c with mode := "on", came := none } z h.onComing (h.ca z hz).1 ht
 simp! [sp1, z1w, z56, hz, oS, ea, endComing]
theorem Wf.cd {p : Pl} {c : Cs} (h : Wf p c) (n : Int) : Wf p (z21 n c) := ⟨h.zn, h.cn, h.zl, h.mo, h.ca, h.cm, h.ln, h.lo, h.us, h.sh, h.al⟩
theorem zh2 (p : Pl) (c : Cs) (h : Wf p c) (hm : c.mode = "leaving" \/ c.mode = "coming") (ht : c.told.length + 50 < big) : z1q [.obj .lent 0 (encC p c)] = some (.none, encC p (endTime p c)) := by
 have e1_ := z7o p c h ht
 have q := z0b h.mo (z02 "leaving")
 rcases hm with hm | hm
 ·simp! [sp5, z1q, z41, hm, e1_, endTime, z0b (z02 "leaving") (z02 "leaving")]
 ·have e2_ := zdu p c h (h.cm hm) (by omega)
  simp! [sp5, z1q, z41, hm, e2_, endTime, z0b (z02 "coming") (z02 "leaving")]
theorem zmb (p : Pl) (c : Cs) (n : Int) (h : Wf p c) (ht : c.told.length + 50 < big) : z1p [.obj .lent 0 (encC p c), .imm (.int n)] = some (.none, encC p (ticks p n c)) := by
 have q : oIn false (.str c.mode) (.tuple [.str "leaving", .str "coming"]) = some (.bool (decide (c.mode = "leaving" \/ c.mode = "coming"))) := by
  have := z8h false (n := c.mode) (ns := ["leaving", "coming"]) h.mo (by
   intro k hk
   simp at hk
   rcases hk with rfl | rfl
   ·exact z02 "leaving"
   ·exact z02 "coming")
  simpa using this
 have e1_ := z64 p c c.left
 have e3_ := z64 p c n
 by_cases h1 : n < 1
 ·simp! [sp3, z1p, z35, h1, ticks]
 ·by_cases h2 : c.mode = "leaving" \/ c.mode = "coming"
  ·by_cases h3 : c.left <= n
   ·have e2_ := zh2 p (z21 c.left c) (h.cd _) h2 ht
    have e4_ := z64 p (endTime p (z21 c.left c)) (n - c.left)
    rw [decide_eq_true h2] at q
    simp only [ticks, if_neg h1, if_pos (And.intro h2 h3)]
    simp! [sp3, z1p, z35, h1, q, h3, e1_, e2_, e4_]
   ·rw [decide_eq_true h2] at q
    simp only [ticks, if_neg h1, if_neg (fun z : (c.mode = "leaving" \/ c.mode = "coming") /\ c.left <= n => h3 z.2)]
    simp! [sp3, z1p, z35, h1, q, h3, e3_]
  ·rw [decide_eq_false h2] at q
   simp only [ticks, if_neg h1, if_neg (fun z : (c.mode = "leaving" \/ c.mode = "coming") /\ c.left <= n => h2 z.1)]
   simp! [sp3, z1p, z35, h1, q, e3_]
def ze5 (k : Cd) (c : Cs) : Bool := decide (k.uses ≠ 0) && decide (k.uses <= znw c k.fig)
def wrong1 (c : Cs) : Cs := { tell "wrong" none c with tries := c.tries + 1 }
def takeWrong (p : Pl) (c : Cs) : Cs := if 3 <= c.tries + 1 then tell "attack" none (beLoud p { wrong1 c with tries := 0, locked := 90 }) else wrong1 c
def z2h (p : Pl) (d : Str) (z : Option Str) (c : Cs) : Bool :=
 if d = "unset" then false else if c.mode ≠ "off" then true
 else if d = "shunt" then decide (kindOf p (z.getD "") = "day") || decide (z.getD "" ∈ c.shunts)
 else decide (d = "free") && !decide (z.getD "" ∈ c.shunts)
def against (p : Pl) (k : Cd) (d : Str) (z : Option Str) (c : Cs) : Option (Str × Str) :=
 if (if d = "free" then ("shunt" : Str) else d) ∉ k.rights then some ("denied", k.who)
 else if z2h p d z c then some ("no", k.who)
 else if d = "set" /\ bare p ["day", "once"] c ≠ [] then some ("open", (bare p ["day", "once"] c).headD "") else none
def doSet (p : Pl) (who : Str) (c : Cs) : Cs :=
 let c1 := tell "set" (some who) { c with alarms := [], siren := 0, mode := "leaving", left := p.leave }
 if p.leave <= 0 then endLeaving p c1 else c1
def doUnset (who : Str) (c : Cs) : Cs := tell "unset" (some who) { c with mode := "off", left := 0, siren := 0, came := none, shunts := [] }
def doDeed (p : Pl) (who d : Str) (z : Option Str) (c : Cs) : Cs :=
 if d = "set" then doSet p who c else if d = "unset" then doUnset who c
 else if d = "shunt" then tell "shunt" z { c with shunts := z75 (c.shunts ++ [z.getD ""]) }
 else tell "free" z { c with shunts := c.shunts.erase (z.getD "") }
def takeRight (p : Pl) (k : Cd) (d : Str) (z : Option Str) (c : Cs) : Cs := match against p k d z c with
 | none => doDeed p k.who d z { c with used := addU c.used k.fig }
 | some (w, n) => tell w (some n) c
def code (p : Pl) (f d : Str) (z : Option Str) (c : Cs) : Cs :=
 if 0 < c.locked then tell "locked" none c else match zfn p f with
  | none => takeWrong p c
  | some k => if ze5 k c then takeWrong p c else takeRight p k d z { c with tries := 0 }
theorem zic (p : Pl) (c : Cs) (k : Cd) (h : Wf p c) (hk : k ∈ p.codes) (m : Md) : z1c [.obj m 0 (encC p c), .imm (z1i k)] = some (.bool (ze5 k c)) := by
 have e : getD (dI c.used) (.inr k.fig) = some (.int (znw c k.fig)) := zlj (by rw [h.us]; exact y0n.mpr ⟨k, hk, rfl⟩)
 have q : oNe (.int k.uses) (.int 0) = some (.bool (!decide (k.uses = 0))) := by
  unfold oNe
  rw [zas, zas]
  by_cases e : k.uses = 0 <;> simp [y28, e]
 by_cases h1 : k.uses = 0
 ·simp! [sp3, z1c, z3h, z1i, q, h1, andV, ze5]
  simp [oNe, zas, y28]
 ·simp! [sp3, z1c, z3h, z1i, q, h1, andV, ze5, z5a, e]
theorem zd4 (p : Pl) (c : Cs) (ht : c.told.length + 2 < big) : z1a [.obj .lent 0 (encC p c)] = some (.none, encC p (takeWrong p c)) := by
 have e1_ := z83 p c "wrong" (by omega)
 have e2_ := z9j p { wrong1 c with tries := 0, locked := 90 }
 have e3_ := z83 p (beLoud p { wrong1 c with tries := 0, locked := 90 }) "attack" (by simp [beLoud, wrong1, tell]; omega)
 have w : ({ mode := (tell "wrong" none c).mode, left := (tell "wrong" none c).left, came := (tell "wrong" none c).came, lines := (tell "wrong" none c).lines, shunts := (tell "wrong" none c).shunts, siren := (tell "wrong" none c).siren, alarms := (tell "wrong" none c).alarms, tries := c.tries + 1, locked := (tell "wrong" none c).locked, used := (tell "wrong" none c).used, past := (tell "wrong" none c).past, told := (tell "wrong" none c).told } : Cs) = wrong1 c := rfl
 have ti : (tell "wrong" none c).tries = c.tries := rfl
 by_cases h3 : 3 <= c.tries + 1
 ·simp! [sp3, z1a, z3f, e1_, ti, h3, takeWrong]
  simp [wrong1] at e2_ e3_ ⊢
  simp [e2_, e3_]
 ·simp! [sp3, z1a, z3f, e1_, ti, h3, takeWrong, wrong1]
end Co
section
namespace Co
open D PySem
theorem Wf.okk {p : Pl} {c : Cs} (h : Wf p c) (z : Str) : okS (kindOf p z) := by
 unfold kindOf
 cases e : p.zones.find? fun x => decide (x.1 = z) with
 | none => exact z02 ""
 | some x => exact (h.zn x (List.mem_of_find?_eq_some e)).2
theorem z68 : (2 <= big) = True := by simp [big]
theorem zhh : (10 <= big) = True := by simp [big]
def okZ (p : Pl) (d : Str) (z : Option Str) : Prop := (d = "shunt" \/ d = "free") -> ∃ x, z = some x /\ x ∈ p.zones.map (·.1)
theorem zc0 (p : Pl) (c : Cs) (d : Str) (z : Option Str) (m : Md) (h : Wf p c) (hd : okS d) (hz : okZ p d z) : z0e [.obj m 0 (encC p c), .imm (.str d), .imm (oS z)] = some (.bool (z2h p d z c)) := by
 have q1 := z0b hd (z02 "unset")
 have q2 := z3w h.mo (z02 "off")
 have q3 := z0b hd (z02 "shunt")
 have q4 := z0b hd (z02 "free")
 by_cases h1 : d = "unset"
 ·simp! [sp1, z0e, z0q, q1, h1, z2h]
  simp [z0b (z02 "unset") (z02 "unset")]
 ·by_cases h2 : c.mode = "off"
  ·by_cases h3 : d = "shunt"
   ·obtain ⟨x, rfl, hx⟩ := hz (.inl h3)
    subst h3
    have ek := zct h.zn hx
    have q5 := z0b (h.okk x) (z02 "day")
    have q6 := z4k false (h.okz hx) h.oksh
    simp at q6
    by_cases h4 : kindOf p x = "day"
    ·simp! [sp5, z0e, z0q, q1, h1, h2, z3w (z02 "off") (z02 "off"), q3, orV, oS, ek, q5, q6, h4, z2h]
     simp [z0b (z02 "day") (z02 "day")]
    ·simp! [sp5, z0e, z0q, q1, h1, h2, z3w (z02 "off") (z02 "off"), q3, orV, oS, ek, q5, q6, h4, z2h]
   ·by_cases h4 : d = "free"
    ·obtain ⟨x, rfl, hx⟩ := hz (.inr h4)
     subst h4
     have q6 := z4k true (h.okz hx) h.oksh
     simp at q6
     simp! [sp5, z0e, z0q, q1, h2, z3w (z02 "off") (z02 "off"), q3, q4, andV, oS, q6, z2h]
    ·simp! [sp5, z0e, z0q, q1, h1, h2, z3w (z02 "off") (z02 "off"), q3, h3, q4, h4, andV, z2h]
  ·simp! [sp1, z0e, z0q, q1, h1, q2, h2, z2h]
def encA : Option (Str × Str) -> T
 | none => .none
 | some (w, n) => .tuple [.str w, .str n]
theorem z81 (p : Pl) (c : Cs) (k : Cd) (d : Str) (z : Option Str) (m : Md) (h : Wf p c) (hk : k ∈ p.codes) (hd : okS d) (hz : okZ p d z) : z0z [.obj m 0 (encC p c), .imm (z1i k), .imm (.str d), .imm (oS z)] = some (encA (against p k d z c)) := by
 have q1 := z0b hd (z02 "free")
 have q2 := z0b hd (z02 "set")
 have eu := zc0 p c d z .ro h hd hz
 have eb := zlx p c ["day", "once"] .ro h (by
  intro k hk
  simp at hk
  rcases hk with rfl | rfl
  ·exact z02 "day"
  ·exact z02 "once")
 simp only [z84, y0e, y1c] at eb
 have q3 := z8h true (n := if d = "free" then ("shunt" : Str) else d) (ns := k.rights) (by
  split
  ·exact z02 "shunt"
  ·exact hd) (h.cn k hk).2.2
 simp at q3
 have qr : (ifE (tstB (op2 oEq (nm 2) (cst (.str "free")))) (cst (.str "shunt")) (nmV 2)) [some (.obj m 0 (encC p c)), some (.imm (z1i k)), some (.imm (.str d)), some (.imm (oS z)), none, none] = some (.str (if d = "free" then ("shunt" : Str) else d)) := by
  by_cases h0 : d = "free"
  ·simp! [sp4, q1, h0, z0b (z02 "free") (z02 "free")]
  ·simp! [sp4, q1, h0]
 simp only [z0z, z3j, runR, z4m, seq, asg, y0e, y1c, y0x, List.length_nil, y0h, List.cons_append, List.nil_append, qr, y1w, y0q, y1o, y1l]
 generalize hr : (if d = "free" then ("shunt" : Str) else d) = r at q3 ⊢
 unfold against
 rw [hr]
 by_cases h1 : r ∈ k.rights
 ·by_cases h2 : z2h p d z c = true
  ·simp! [sp1, z1i, z68, q3, h1, eu, h2, encA]
  ·simp at h2
   by_cases h3 : d = "set"
   ·subst h3
    cases e : bare p ["day", "once"] c with
    | nil =>
     rw [e] at eb
     simp! [sp1, z1i, z68, q3, h1, eu, h2, eb, q2, encA]
    | cons b bs =>
     rw [e] at eb
     simp! [sp1, z1i, z68, q3, h1, eu, h2, eb, q2, encA]
   ·simp! [sp1, z1i, z68, q3, h1, eu, h2, eb, q2, h3, encA]
 ·simp! [sp1, z1i, z68, q3, h1, encA]
theorem Wf.setAl {p : Pl} {c : Cs} (h : Wf p c) (x : Int) : Wf p { c with alarms := [], siren := 0, mode := "leaving", left := x } := ⟨h.zn, h.cn, h.zl, z02 "leaving", h.ca, fun e => absurd e z36, h.ln, h.lo, h.us, h.sh, by simp⟩
theorem zln (p : Pl) (c : Cs) (w : Str) (h : Wf p c) (ht : c.told.length + 60 < big) : z2e [.obj .lent 0 (encC p c), .imm (.str w)] = some (.none, encC p (doSet p w c)) := by
 have e1_ := z3k p { c with alarms := [], siren := 0, mode := "leaving", left := p.leave } "set" w (by show c.told.length < big; omega)
 have e2_ := z7o p (tell "set" (some w) { c with alarms := [], siren := 0, mode := "leaving", left := p.leave }) ((h.setAl p.leave).tell _ _) (by
  have : (tell "set" (some w) { c with alarms := [], siren := 0, mode := "leaving", left := p.leave } : Cs).told.length = c.told.length + 1 := by simp [tell]
  omega)
 have lf : (tell "set" (some w) { c with alarms := [], siren := 0, mode := "leaving", left := p.leave } : Cs).left = p.leave := rfl
 by_cases h1 : p.leave <= 0
 ·simp! [sp3, z2e, z57, encP, e1_, lf, h1, e2_, doSet]
 ·simp! [sp3, z2e, z57, encP, e1_, lf, h1, doSet]
theorem zh3 (p : Pl) (c : Cs) (w : Str) (ht : c.told.length < big) : z2d [.obj .lent 0 (encC p c), .imm (.str w)] = some (.none, encC p (doUnset w c)) := by
 have e1_ := z3k p { c with mode := "off", left := 0, siren := 0, came := none, shunts := [] } "unset" w ht
 simp! [sp3, z2d, z5p, e1_, doUnset]
theorem z92 : ∀ l : List Str, zak (l.map .str) = some l
 | [] => rfl
 | x :: l => by simp [zak, z92 l]
def okD (p : Pl) (d : Str) (z : Option Str) (c : Cs) : Prop := d = "set" \/ d = "unset" \/ (d = "shunt" /\ ∃ x, z = some x /\ x ∈ p.zones.map (·.1)) \/ (d = "free" /\ ∃ x, z = some x /\ x ∈ c.shunts)
theorem zj6 (p : Pl) (c : Cs) (w d : Str) (z : Option Str) (h : Wf p c) (hd : okS d) (hz : okD p d z c) (ht : c.told.length + 60 < big) : z17 [.obj .lent 0 (encC p c), .imm (.str w), .imm (.str d), .imm (oS z)] = some (.none, encC p (doDeed p w d z c)) := by
 have q1 := z0b hd (z02 "set")
 have q2 := z0b hd (z02 "unset")
 have q3 := z0b hd (z02 "shunt")
 have es := zln p c w h ht
 have eu := zh3 p c w (by omega)
 rcases hz with rfl | rfl | ⟨rfl, x, rfl, hx⟩ | ⟨rfl, x, rfl, hx⟩
 ·simp! [sp1, z17, z2p, q1, es, doDeed]
 ·simp! [sp5, z17, z2p, q1, q2, eu, doDeed]
 ·have hl := h.shLen
  have e1_ := z3k p { c with shunts := z75 (c.shunts ++ [x]) } "shunt" x (by show c.told.length < big; omega)
  have b1 : c.shunts.length + 1 <= big := by unfold big; omega
  have b2 : c.shunts.length + 1 < 64 := by omega
  have b0 : 1 <= big := by decide
  have b3 := z92 (c.shunts ++ [x])
  simp at b3
  simp! [sp5, z17, z2p, q1, q2, q3, oS, oAdd, b0, b1, b2, za7, b3, e1_, doDeed]
 ·have e1_ := z3k p { c with shunts := c.shunts.erase x } "free" x (by show c.told.length < big; omega)
  simp! [sp5, z17, z2p, q1, q2, q3, oS, rmF, z92, hx, e1_, doDeed]
structure Wp (p : Pl) : Prop where
 cd : (p.codes.map (·.fig)).Nodup
 zd : (p.zones.map (·.1)).Nodup
 cl : p.codes.length <= 40
 ti : 0 <= p.leave /\ 0 <= p.come /\ 0 <= p.loud
theorem Wf.add {p : Pl} {c : Cs} (h : Wf p c) (f : Str) : Wf p { c with used := addU c.used f } := ⟨h.zn, h.cn, h.zl, h.mo, h.ca, h.cm, h.ln, h.lo, (zm1 _ _).trans h.us, h.sh, h.al⟩
theorem Wf.tri {p : Pl} {c : Cs} (h : Wf p c) (n : Int) : Wf p { c with tries := n } := ⟨h.zn, h.cn, h.zl, h.mo, h.ca, h.cm, h.ln, h.lo, h.us, h.sh, h.al⟩
theorem zhu {p : Pl} {c : Cs} {k : Cd} {d : Str} {z : Option Str} (hd : d = "set" \/ d = "unset" \/ d = "shunt" \/ d = "free") (hz : okZ p d z) (ha : against p k d z c = none) : okD p d z c := by
 rcases hd with rfl | rfl | rfl | rfl
 ·exact .inl rfl
 ·exact .inr (.inl rfl)
 ·exact .inr (.inr (.inl ⟨rfl, hz (.inl rfl)⟩))
 ·refine .inr (.inr (.inr ⟨rfl, ?_⟩))
  obtain ⟨x, rfl, hx⟩ := hz (.inr rfl)
  refine ⟨x, rfl, ?_⟩
  refine Classical.byContradiction fun hu => ?_
  have : z2h p "free" (some x) c = true := by
   by_cases hm : c.mode = "off" <;> simp [z2h, z45, z46, hu, hm]
  unfold against at ha
  rw [this] at ha
  by_cases hr : (if ("free" : Str) = "free" then ("shunt" : Str) else "free") ∈ k.rights
  ·rw [if_neg (fun q => q hr), if_pos rfl] at ha
   cases ha
  ·rw [if_pos hr] at ha
   cases ha
theorem zd5 (p : Pl) (c : Cs) (k : Cd) (d : Str) (z : Option Str) (h : Wf p c) (hp : Wp p) (hk : k ∈ p.codes) (hd : d = "set" \/ d = "unset" \/ d = "shunt" \/ d = "free") (hz : okZ p d z) (ht : c.told.length + 60 < big) : z1b [.obj .lent 0 (encC p c), .imm (z1i k), .imm (.str d), .imm (oS z)] = some (.none, encC p (takeRight p k d z c)) := by
 have od : okS d := by
  rcases hd with rfl | rfl | rfl | rfl
  ·exact z02 "set"
  ·exact z02 "unset"
  ·exact z02 "shunt"
  ·exact z02 "free"
 have ea := z81 p c k d z .ro h hk od hz
 have ku : k.fig ∈ c.used.map (·.1) := by rw [h.us]; exact y0n.mpr ⟨k, hk, rfl⟩
 cases e : against p k d z c with
 | none =>
  have hD := zhu hd hz e
  have g1 := zlj ku
  have g2 := zr6 ku (by rw [h.us]; exact hp.cd)
  have hl : (dI c.used).length < big := by
   have := congrArg List.length h.us
   have := hp.cl
   simp [dI] at *
   unfold big
   omega
  have ed := zj6 p { c with used := addU c.used k.fig } k.who d z (h.add _) od hD ht
  rw [e] at ea
  simp only [z1i] at ea
  simp! [sp1, z1b, z3g, ea, encA, z1i, z5a, g1, g2, hl, ed, takeRight, e]
 | some wn =>
  obtain ⟨w, n⟩ := wn
  have et := z3k p c w n (by omega)
  rw [e] at ea
  simp only [z1i] at ea
  simp! [sp1, z1b, z3g, ea, encA, z1i, et, takeRight, e]
theorem z9g {p : Pl} {f : Str} {k : Cd} (h : zfn p f = some k) : k ∈ p.codes := List.mem_of_find?_eq_some h
theorem zqc (p : Pl) (c : Cs) (f d : Str) (z : Option Str) (h : Wf p c) (hp : Wp p) (hf : okS f) (hd : d = "set" \/ d = "unset" \/ d = "shunt" \/ d = "free") (hz : okZ p d z) (ht : c.told.length + 60 < big) : z20 [.obj .lent 0 (encC p c), .imm (.str f), .imm (.str d), .imm (oS z)] = some (.none, encC p (code p f d z c)) := by
 have ec := zje (fun k hk => (h.cn k hk).1) hf
 have et := z83 p c "locked" (by omega)
 have ew := zd4 p c (by omega)
 by_cases h1 : 0 < c.locked
 ·simp! [sp3, z20, z3r, ec, h1, et, code]
 ·cases e : zfn p f with
  | none =>
   rw [e] at ec
   simp! [sp3, z20, z3r, ec, encO, h1, ew, code, e]
  | some k =>
   rw [e] at ec
   have hk := z9g e
   have eu := zic p c k h hk .ro
   have er := zd5 p { c with tries := 0 } k d z (h.tri 0) hp hk hd hz ht
   cases h2 : ze5 k c with
   | true =>
    rw [h2] at eu
    simp! [sp3, z20, z3r, ec, encO, h1, eu, z1i] at eu ⊢
    simp [eu, ew, code, e, h1, h2]
   | false =>
    rw [h2] at eu
    simp! [sp3, z20, z3r, ec, encO, h1, eu, z1i] at eu er ⊢
    simp! [sp8, eu, er, code, e, h1, h2]
inductive Et where
 | line (z w : Str)
 | code (f d : Str) (z : Option Str)
 | ticks (n : Int)
def encE : Et -> T
 | .line z w => .tuple [.str "line", .str z, .str w]
 | .code f d z => .tuple [.str "code", .str f, .str d, oS z]
 | .ticks n => .tuple [.str "ticks", .int n]
def okE (p : Pl) : Et -> Prop
 | .line z w => z ∈ p.zones.map (·.1) /\ (w = "shut" \/ w = "open" \/ w = "cut")
 | .code f d z => okS f /\ (d = "set" \/ d = "unset" \/ d = "shunt" \/ d = "free") /\ okZ p d z
 | .ticks n => 1 <= n
def happen (p : Pl) (c : Cs) : Et -> Cs
 | .line z w => line p z w c
 | .code f d z => code p f d z c
 | .ticks n => ticks p n c
theorem zlh (p : Pl) (c : Cs) (e : Et) (h : Wf p c) (hp : Wp p) (he : okE p e) (ht : c.told.length + 60 < big) : z1d [.obj .lent 0 (encC p c), .imm (encE e)] = some (.none, encC p (happen p c e)) := by
 have q (x y : Str) (hx : okS x) (hy : okS y) := z0b hx hy
 cases e with
 | line z w =>
  have ow : okS w := by
   rcases he.2 with rfl | rfl | rfl
   ·exact z02 "shut"
   ·exact z02 "open"
   ·exact z02 "cut"
  have el := zpu p c z w h he.1 ow (by omega)
  simp! [sp1, z1d, z3q, encE, z0b (z02 "line") (z02 "line"), el, happen]
 | code f d z =>
  have el := zqc p c f d z h hp he.1 he.2.1 he.2.2 ht
  simp! [sp5, z1d, z3q, encE, z0b (z02 "code") (z02 "line"), z0b (z02 "code") (z02 "code"), el, happen]
 | ticks n =>
  have el := zmb p c n h (by omega)
  simp! [sp5, z1d, z3q, encE, z0b (z02 "ticks") (z02 "line"), z0b (z02 "ticks") (z02 "code"), el, happen]
end Co
end
section
namespace Co
open D PySem
local instance : Tbl := ⟨[], fun _ => [], fun _ => none⟩
theorem z29 (w : Str) (n : Option Str) (c : Cs) : (tell w n c).told.length = c.told.length + 1 := by simp [tell]
theorem Wf.coming {p : Pl} {c : Cs} (h : Wf p c) (x : Int) {z : Str} (hz : z ∈ p.zones.map (·.1)) : Wf p { c with mode := "coming", left := x, came := some z } :=
 ⟨h.zn, h.cn, h.zl, z02 "coming", fun y e => Option.some.inj e ▸ ⟨h.okz hz, hz⟩, fun _ e => (nomatch e), h.ln, h.lo, h.us, h.sh, h.al⟩
theorem Wf.comeIn {p : Pl} {c : Cs} (h : Wf p c) {z : Str} (k : Str) (hz : z ∈ p.zones.map (·.1)) : Wf p (comeIn p z k c) := by
 unfold Co.comeIn
 split
 ·exact h.alarm hz
 ·exact (h.coming p.come hz).tell _ _
theorem zh6 (p : Pl) (z k : Str) (c : Cs) : (comeIn p z k c).told.length <= c.told.length + 1 := by
 unfold Co.comeIn
 split
 ·exact z5r p z c
 ·rw [z29]; exact y0p _
theorem Wf.disturb {p : Pl} {c : Cs} (h : Wf p c) {z : Str} (w : Str) (hz : z ∈ p.zones.map (·.1)) : Wf p (disturb p z w c) := by
 unfold Co.disturb
 repeat' split
 all_goals first | exact h.alarm hz | exact h.tell _ _ | exact h.comeIn _ hz | exact h
theorem zfg (p : Pl) (z w : Str) (c : Cs) : (disturb p z w c).told.length <= c.told.length + 1 := by
 unfold Co.disturb
 repeat' split
 all_goals first | exact z5r p z c | exact zh6 p z _ c | (rw [z29]; exact y0p _) | omega
theorem Wf.line {p : Pl} {c : Cs} (h : Wf p c) {z w : Str} (hz : z ∈ p.zones.map (·.1)) (hw : okS w) : Wf p (line p z w c) := by
 have h' := h.setLine z hw
 unfold Co.line
 repeat' split
 all_goals first | exact h | exact h' | exact h'.tell _ _ | exact h'.disturb _ hz
theorem zl1 (p : Pl) (z w : Str) (c : Cs) : (line p z w c).told.length <= c.told.length + 1 := by
 unfold Co.line
 repeat' split
 all_goals first | omega | (rw [z29]; exact y0p _) | exact zfg p z w { c with lines := setL c.lines z w } | exact Nat.le_succ _
theorem Wf.alarms {p : Pl} : ∀ {zs : List Str} {c : Cs}, Wf p c -> (∀ z ∈ zs, z ∈ p.zones.map (·.1)) -> Wf p (Co.alarms p zs c)
 | [], _, h, _ => h
 | z :: zs, c, h, hz => Wf.alarms (zs := zs) (h.alarm (hz z y0f)) fun y hy => hz y (y05 _ hy)
theorem zbr (p : Pl) : ∀ (zs : List Str) (c : Cs), (Co.alarms p zs c).told.length <= c.told.length + zs.length
 | [], c => y0p _
 | z :: zs, c => by
  have h1 := zbr p zs (alarm p z c)
  have h2 := z5r p z c
  simp only [y0x]
  show (Co.alarms p zs (alarm p z c)).told.length <= _
  omega
theorem Wf.endLeaving {p : Pl} {c : Cs} (h : Wf p c) : Wf p (endLeaving p c) := Wf.alarms ((h.on 0).tell _ _) fun z hz => z8u hz
theorem z6s {p : Pl} {c : Cs} (h : Wf p c) : (endLeaving p c).told.length <= c.told.length + 41 := by
 have h1 := zbr p (bare p ["inner", "way"] (tell "on" none { c with mode := "on", left := 0 })) (tell "on" none { c with mode := "on", left := 0 })
 have h2 := zi7 p ["inner", "way"] (tell "on" none { c with mode := "on", left := 0 })
 have h3 := h.zl
 rw [z29] at h1
 show (Co.alarms p _ _).told.length <= _
 have h4 : ({ c with mode := "on", left := 0 } : Cs).told.length = c.told.length := rfl
 omega
theorem Wf.endComing {p : Pl} {c : Cs} (h : Wf p c) (hc : c.came ≠ none) : Wf p (endComing p c) := by
 obtain ⟨z, hz⟩ := Option.ne_none_iff_exists'.mp hc
 unfold Co.endComing
 rw [hz]
 exact h.onComing.alarm (h.ca z hz).2
theorem zc1 (p : Pl) (c : Cs) : (endComing p c).told.length <= c.told.length + 1 := z5r _ _ _
theorem Wf.endTime {p : Pl} {c : Cs} (h : Wf p c) (hm : c.mode = "leaving" \/ c.mode = "coming") : Wf p (endTime p c) := by
 unfold Co.endTime
 split
 ·exact h.endLeaving
 next q => exact h.endComing (h.cm (hm.resolve_left q))
theorem zff {p : Pl} {c : Cs} (h : Wf p c) : (endTime p c).told.length <= c.told.length + 41 := by
 unfold Co.endTime
 split
 ·exact z6s h
 ·have := zc1 p c
  omega
theorem Wf.ticks {p : Pl} {c : Cs} (h : Wf p c) (n : Int) : Wf p (ticks p n c) := by
 unfold Co.ticks
 split
 ·exact h
 ·split
  next q => exact ((h.cd _).endTime q.1).cd _
  ·exact h.cd _
theorem zif {p : Pl} {c : Cs} (h : Wf p c) (n : Int) : (ticks p n c).told.length <= c.told.length + 41 := by
 unfold Co.ticks
 split
 ·omega
 ·split
  ·exact zff (h.cd c.left)
  ·exact Nat.le_add_right _ _
theorem Wf.takeWrong {p : Pl} {c : Cs} (h : Wf p c) : Wf p (takeWrong p c) := by
 unfold Co.takeWrong
 split
 ·exact Wf.tell (Wf.loud (c := { wrong1 c with tries := 0, locked := 90 }) ⟨h.zn, h.cn, h.zl, h.mo, h.ca, h.cm, h.ln, h.lo, h.us, h.sh, h.al⟩) _ _
 ·exact ⟨h.zn, h.cn, h.zl, h.mo, h.ca, h.cm, h.ln, h.lo, h.us, h.sh, h.al⟩
theorem zbv (p : Pl) (c : Cs) : (takeWrong p c).told.length <= c.told.length + 2 := by
 unfold Co.takeWrong
 split
 ·rw [z29]
  show (tell _ _ c).told.length + 1 <= _
  rw [z29]
  exact y0p _
 ·show (tell _ _ c).told.length <= _
  rw [z29]
  omega
theorem Wf.doSet {p : Pl} {c : Cs} (h : Wf p c) (w : Str) : Wf p (doSet p w c) := by
 unfold Co.doSet
 have h' := (h.setAl p.leave).tell "set" (some w)
 show Wf p (if p.leave <= 0 then _ else _)
 split
 ·exact h'.endLeaving
 ·exact h'
theorem zj7 {p : Pl} {c : Cs} (h : Wf p c) (w : Str) : (doSet p w c).told.length <= c.told.length + 42 := by
 unfold Co.doSet
 have h' := (h.setAl p.leave).tell "set" (some w)
 have e := z29 "set" (some w) { c with alarms := [], siren := 0, mode := "leaving", left := p.leave }
 have e' : ({ c with alarms := [], siren := 0, mode := "leaving", left := p.leave } : Cs).told.length = c.told.length := rfl
 show (if p.leave <= 0 then endLeaving p _ else _ : Cs).told.length <= _
 split
 ·have := z6s h'
  omega
 ·omega
theorem Wf.doUnset {p : Pl} {c : Cs} (h : Wf p c) (w : Str) : Wf p (doUnset w c) :=
 ⟨h.zn, h.cn, h.zl, z02 "off", fun z e => (nomatch e), fun e => absurd e z2t, h.ln, h.lo, h.us, by simp [Co.doUnset, Co.tell], h.al⟩
theorem Wf.doDeed {p : Pl} {c : Cs} (h : Wf p c) (w : Str) {d : Str} {z : Option Str} (hz : okD p d z c) (hn : d = "shunt" -> z.getD "" ∉ c.shunts) : Wf p (doDeed p w d z c) := by
 rcases hz with rfl | rfl | ⟨rfl, x, rfl, hx⟩ | ⟨rfl, x, rfl, hx⟩
 ·simp only [Co.doDeed, if_true]; exact h.doSet w
 ·simp only [Co.doDeed, if_neg z4v, if_true]; exact h.doUnset w
 ·simp only [Co.doDeed, if_neg z5z, if_neg z3o, if_true]
  refine Wf.tell (c := { c with shunts := z75 (c.shunts ++ [x]) }) ⟨h.zn, h.cn, h.zl, h.mo, h.ca, h.cm, h.ln, h.lo, h.us, ⟨?_, ?_⟩, h.al⟩ _ _
  ·show (z75 (c.shunts ++ [x])).Nodup
   rw [(z3u _).nodup_iff, y1r]
   refine ⟨h.sh.1, by simp, fun a ha b hb e => ?_⟩
   simp at hb
   exact hn rfl (by show x ∈ _; exact hb ▸ e ▸ ha)
  ·intro y hy
   have hy' := (z3u _).mem_iff.mp hy
   rcases y13.mp hy' with q | q
   ·exact h.sh.2 y q
   ·simp at q
    exact q ▸ hx
 ·simp only [Co.doDeed, if_neg z72, if_neg z45, if_neg z46]
  refine Wf.tell (c := { c with shunts := c.shunts.erase x }) ⟨h.zn, h.cn, h.zl, h.mo, h.ca, h.cm, h.ln, h.lo, h.us, ⟨?_, ?_⟩, h.al⟩ _ _
  ·exact h.sh.1.erase x
  ·exact fun y hy => h.sh.2 y (List.mem_of_mem_erase hy)
theorem zh4 {p : Pl} {c : Cs} (h : Wf p c) (w d : Str) (z : Option Str) : (doDeed p w d z c).told.length <= c.told.length + 42 := by
 unfold Co.doDeed
 split
 ·exact zj7 h w
 ·split
  ·show (tell _ _ _).told.length <= _
   rw [z29]
   show c.told.length + 1 <= _
   omega
  ·split
   ·rw [z29]
    show c.told.length + 1 <= _
    omega
   ·rw [z29]
    show c.told.length + 1 <= _
    omega
theorem ze1 {p : Pl} {c : Cs} {k : Cd} {z : Option Str} (ha : against p k "shunt" z c = none) : z.getD "" ∉ c.shunts /\ c.mode = "off" /\ kindOf p (z.getD "") ≠ "day" := by
 have hu : z2h p "shunt" z c ≠ true := by
  intro q
  unfold against at ha
  rw [q] at ha
  by_cases hr : (if ("shunt" : Str) = "free" then ("shunt" : Str) else "shunt") ∈ k.rights
  ·rw [if_neg (fun q => q hr), if_pos rfl] at ha
   cases ha
  ·rw [if_pos hr] at ha
   cases ha
 unfold z2h at hu
 rw [if_neg z3o] at hu
 by_cases hm : c.mode = "off"
 ·rw [if_neg (fun q => q hm), if_pos rfl] at hu
  simp at hu
  exact ⟨hu.2, hm, hu.1⟩
 ·rw [if_pos hm] at hu
  exact absurd rfl hu
theorem Wf.takeRight {p : Pl} {c : Cs} (h : Wf p c) (k : Cd) {d : Str} {z : Option Str} (hd : d = "set" \/ d = "unset" \/ d = "shunt" \/ d = "free") (hz : okZ p d z) : Wf p (takeRight p k d z c) := by
 unfold Co.takeRight
 split
 next e =>
  refine (h.add _).doDeed _ (zhu hd hz e) fun q => ?_
  subst q
  exact (ze1 e).1
 ·exact h.tell _ _
theorem zbw {p : Pl} {c : Cs} (h : Wf p c) (k : Cd) (d : Str) (z : Option Str) : (takeRight p k d z c).told.length <= c.told.length + 42 := by
 unfold Co.takeRight
 split
 ·exact zh4 (h.add k.fig) _ _ _
 ·rw [z29]; omega
theorem Wf.code {p : Pl} {c : Cs} (h : Wf p c) (f : Str) {d : Str} {z : Option Str} (hd : d = "set" \/ d = "unset" \/ d = "shunt" \/ d = "free") (hz : okZ p d z) : Wf p (code p f d z c) := by
 unfold Co.code
 split
 ·exact h.tell _ _
 ·split
  ·exact h.takeWrong
  ·split
   ·exact h.takeWrong
   ·exact (h.tri 0).takeRight _ hd hz
theorem zlr {p : Pl} {c : Cs} (h : Wf p c) (f d : Str) (z : Option Str) : (code p f d z c).told.length <= c.told.length + 42 := by
 have := zbv p c
 unfold Co.code
 split
 ·rw [z29]; omega
 ·split
  ·omega
  ·split
   ·omega
   ·exact zbw (h.tri 0) _ _ _
theorem zt3 {p : Pl} {z w : Str} (he : okE p (.line z w)) : okS w := by
 rcases he.2 with rfl | rfl | rfl
 ·exact z02 "shut"
 ·exact z02 "open"
 ·exact z02 "cut"
theorem Wf.happen {p : Pl} {c : Cs} (h : Wf p c) {e : Et} (he : okE p e) : Wf p (happen p c e) := by
 cases e with
 | line z w => exact h.line he.1 (zt3 he)
 | code f d z => exact h.code f he.2.1 he.2.2
 | ticks n => exact h.ticks n
theorem zbd {p : Pl} {c : Cs} (h : Wf p c) (e : Et) : (happen p c e).told.length <= c.told.length + 50 := by
 cases e with
 | line z w => have := zl1 p z w c; show (line p z w c).told.length <= _; omega
 | code f d z => have := zlr h f d z; show (code p f d z c).told.length <= _; omega
 | ticks n => have := zif h n; show (ticks p n c).told.length <= _; omega
def run (p : Pl) (c : Cs) (es : List Et) : Cs := es.foldl (happen p) c
def fresh (c : Cs) : Cs := { c with past := 0, told := [] }
theorem Wf.fresh {p : Pl} {c : Cs} (h : Wf p c) : Wf p (fresh c) := ⟨h.zn, h.cn, h.zl, h.mo, h.ca, h.cm, h.ln, h.lo, h.us, h.sh, h.al⟩
theorem Wf.run {p : Pl} : ∀ {es : List Et} {c : Cs}, Wf p c -> (∀ e ∈ es, okE p e) -> Wf p (run p c es)
 | [], _, h, _ => h
 | e :: es, c, h, he => Wf.run (es := es) (h.happen (he e y0f)) fun y hy => he y (y05 _ hy)
theorem zdc {p : Pl} : ∀ {es : List Et} {c : Cs}, Wf p c -> (∀ e ∈ es, okE p e) -> (run p c es).told.length <= c.told.length + 50 * es.length
 | [], _, _, _ => y0p _
 | e :: es, c, h, he => by
  have h1 := zdc (es := es) (h.happen (he e y0f)) fun y hy => he y (y05 _ hy)
  have h2 := zbd h e
  show (run p (happen p c e) es).told.length <= _
  simp only [y0x]
  omega
def encS (c : Cs) : T := .tuple [.str c.mode, .int c.left, oS c.came, .tuple (c.lines.map fun l => .str l.2), .tuple (c.shunts.map .str), .int c.siren, .tuple (c.alarms.map .str), .int c.tries, .int c.locked, .tuple (c.used.map fun u => .int u.2)]
theorem znt : ∀ (ks : List Str) (l : List (Str × Str)), l.map (·.1) = ks -> zipD (ks.map .str) (l.map fun l => .str l.2) = some (dS l)
 | [], [], _ => rfl
 | [], _ :: _, h => by cases h
 | _ :: _, [], h => by cases h
 | k :: ks, x :: l, h => by
  simp at h
  simp [zipD, z5a, znt ks l h.2, dS, h.1]
theorem znu : ∀ (ks : List Str) (l : List (Str × Int)), l.map (·.1) = ks -> zipD (ks.map .str) (l.map fun l => .int l.2) = some (dI l)
 | [], [], _ => rfl
 | [], _ :: _, h => by cases h
 | _ :: _, [], h => by cases h
 | k :: ks, x :: l, h => by
  simp at h
  simp [zipD, z5a, znu ks l h.2, dI, h.1]
theorem zer {l : List Str} (h : l.Nodup) : (l.map (Sum.inr : Str -> D.Key)).Nodup := by
 rw [List.nodup_iff_pairwise_ne, List.pairwise_map]
 exact (List.nodup_iff_pairwise_ne.mp h).imp fun q e => q (Sum.inr.inj e)
theorem zpw (l : List (Str × Str)) : (dS l).map (·.1) = (l.map (·.1)).map Sum.inr := by simp [dS, y19]
theorem zpx (l : List (Str × Int)) : (dI l).map (·.1) = (l.map (·.1)).map Sum.inr := by simp [dI, y19]
theorem zac {α : Type} (enc : α -> T) (g : α -> T) (caps : Ev) (ts : List α) (s0 : Option Sl) (h : ∀ a ∈ ts, (op2 oIx (nm 0) (cst (.int 0))) (some (.imm (enc a)) :: caps) = some (g a)) : z48 (gNm 0) (cstT true) (op2 oIx (nm 0) (cst (.int 0))) (ts.map enc) (s0 :: caps) = some (ts.map g) := by
 have := z8o (cc := cstT true) (ee := op2 oIx (nm 0) (cst (.int 0))) (caps := caps) enc (fun _ => true) g ts s0 fun a ha => ⟨rfl, fun _ => h a ha⟩
 rw [List.filter_eq_self.mpr (fun _ _ => rfl)] at this
 exact this
theorem zq0 (p : Pl) (c : Cs) (h : Wf p c) (hp : Wp p) : z2f [.obj .lent 0 [], .imm (encP p), .imm (encS c)] = some (.none, encC p (fresh c)) := by
 have hz := h.zl
 have hc := hp.cl
 have c1 := zac encZ (fun z => .str z.1) [] p.zones none fun z hz => by simp! [sp2, encZ]
 have c2 := zac z1i (fun z => .str z.fig) [] p.codes none fun z hz => by simp! [sp2, z1i]
 have z1 := znt (p.zones.map (·.1)) c.lines h.ln
 have z2 := znu (p.codes.map (·.fig)) c.used h.us
 rw [List.map_map] at z1 z2
 have b1 : p.zones.length <= big := by unfold big; omega
 have b2 : p.codes.length <= big := by unfold big; omega
 have n1 : ((dS c.lines).map (·.1)).Nodup /\ (dS c.lines).length <= 1000 /\ ∀ t ∈ (p.zones.map fun z => y23 z.1), (z5a t).isSome = true := by
  refine ⟨?_, ?_, ?_⟩
  ·rw [zpw, h.ln]; exact zer hp.zd
  ·have := congrArg List.length h.ln
   simp [dS] at *
   omega
  ·intro t ht
   obtain ⟨z, _, rfl⟩ := y0n.mp ht
   rfl
 have n2 : ((dI c.used).map (·.1)).Nodup /\ (dI c.used).length <= 1000 /\ ∀ t ∈ (p.codes.map fun z => y23 z.fig), (z5a t).isSome = true := by
  refine ⟨?_, ?_, ?_⟩
  ·rw [zpx, h.us]; exact zer hp.cd
  ·have := congrArg List.length h.us
   simp [dI] at *
   omega
  ·intro t ht
   obtain ⟨z, _, rfl⟩ := y0n.mp ht
   rfl
 have b0 : (0 <= big) = True := by simp
 simp only [y19] at z1 z2
 simp only [z2f, z5q, runM, z4m]
 simp! [sp4, encP, encS, zjm, zcl, c1, c2, b1, b2, z1, z2]
 rw [if_pos n1]
 simp! [sp4, zcl, zjm, c1, c2, b1, b2, z1, z2]
 rw [if_pos ⟨n2.1, n2.2.1, fun a ha => rfl⟩]
 simp! [sp4, encC, fresh, encP]
theorem zme (p : Pl) (c : Cs) (m : Md) (h : Wf p c) : z33 [.obj m 0 (encC p c)] = some (encS c) := by
 have h1 := h.shLen
 have h2 := h.alLen
 have b1 : c.shunts.length <= big := by unfold big; omega
 have b2 : c.alarms.length <= big := by unfold big; omega
 simp! [sp1, z33, z7p, zlm, z3n, b1, b2, zhh, encS, dS, dI, y19]
theorem zhn (p : Pl) (hp : Wp p) : ∀ (es : List Et) (c : Cs) (s0 s1 s2 s4 : Option Sl), Wf p c -> (∀ e ∈ es, okE p e) -> c.told.length + 50 * es.length + 60 < big -> ∃ s4', forL (gNm 4) (exX (z1n 0 z1d 3 [(nmV 4)])) (es.map encE) [s0, s1, s2, some (.obj .own 0 (encC p c)), s4] = some (.nx [s0, s1, s2, some (.obj .own 0 (encC p (run p c es))), s4'])
 | [], c, s0, s1, s2, s4, _, _, _ => ⟨s4, by simp [forL, run]⟩
 | e :: es, c, s0, s1, s2, s4, h, he, ht => by
  have hee := he e y0f
  simp only [y0x] at ht
  have ea := zlh p c e h hp hee (by omega)
  have := zbd h e
  obtain ⟨s1', ih⟩ := zhn p hp es (happen p c e) s0 s1 s2 (some (.imm (encE e))) (h.happen hee) (fun y hy => he y (y05 _ hy)) (by omega)
  refine ⟨s1', ?_⟩
  rw [y0e, forL]
  simp! [sp4, ea]
  simpa [runF, seq, iff, tstB, tstL, andT, orT, notT, cstT, ofT, op1, op2, opN, args, cst, nm, nmV, rtn, skip, asg, asgN, asgT, par, z0g, z3x, oIsN, z7u, oIx, atZ, ixOf, gNm, gTu, gAll, z2m, comp, z34, run] using ih
theorem z9t (p : Pl) (c : Cs) (es : List Et) (h : Wf p c) (hp : Wp p) (he : ∀ e ∈ es, okE p e) (hl : es.length <= 1000) : z2u [encP p, encS c, .tuple (es.map encE)] = some (.obj .own 0 (encC p (run p (fresh c) es))) := by
 have ei := zq0 p c h hp
 have hb : (fresh c).told.length = 0 := rfl
 have b2 : (60000 < big) := by decide
 obtain ⟨s4', el⟩ := zhn p hp es (fresh c) (some (.imm (encP p))) (some (.imm (encS c))) (some (.imm (.tuple (es.map encE)))) none h.fresh he (by omega)
 simp only [z2u, z80, runO]
 simp! [sp4, asgO, newO, ei, for_, rtnO]
 rw [el]
 simp [rtnO, ownS]
theorem zns (p : Pl) (c : Cs) (es : List Et) (h : Wf p c) (hp : Wp p) (he : ∀ e ∈ es, okE p e) (hl : es.length <= 1000) : zbh [encP p, encS c, .tuple (es.map encE)] = some (encS (run p (fresh c) es)) := by
 have e1_ := z9t p c es h hp he hl
 have e2_ := zme p (run p (fresh c) es) .ro (h.fresh.run he)
 simp! [sp2, zbh, zm0, zjg, ofO, e1_, z9c, e2_]
theorem zmd (p : Pl) (c : Cs) (es : List Et) (h : Wf p c) (hp : Wp p) (he : ∀ e ∈ es, okE p e) (hl : es.length <= 1000) : zbg [encP p, encS c, .tuple (es.map encE)] = some (.tuple ((run p (fresh c) es).told.map encW)) := by
 have e1_ := z9t p c es h hp he hl
 have hb := zdc h.fresh he
 have b2 : (60000 < big) := by decide
 have h0 : (fresh c).told.length = 0 := rfl
 have b1 : (run p (fresh c) es).told.length <= big := by omega
 simp! [sp2, zbg, zly, zjg, zdo, e1_, z9c, e12, z3n, b1]
def z2v (p : Pl) : Cs := { mode := "off", left := 0, came := none, lines := p.zones.map fun z => (z.1, "shut"), shunts := [], siren := 0, alarms := [], tries := 0, locked := 0, used := p.codes.map fun k => (k.fig, 0), past := 0, told := [] }
theorem znl (p : Pl) (hz : p.zones.length <= 40) (hp : Wp p) : z9e [encP p] = some (encS (z2v p)) := by
 have hc := hp.cl
 have b1 : p.zones.length <= big := by unfold big; omega
 have b2 : p.codes.length <= big := by unfold big; omega
 have c1 := z8o (cc := cstT true) (ee := cst (.str "shut")) (caps := []) encZ (fun _ => true) (fun _ => .str "shut") p.zones none fun a ha => ⟨rfl, fun _ => rfl⟩
 have c2 := z8o (cc := cstT true) (ee := cst (.int 0)) (caps := []) z1i (fun _ => true) (fun _ => .int 0) p.codes none fun a ha => ⟨rfl, fun _ => rfl⟩
 rw [List.filter_eq_self.mpr (fun _ _ => rfl)] at c1 c2
 simp! [sp2, z9e, zlz, encP, z3n, b1, b2, c1, c2, zhh, encS, z2v, oS, y19]
end Co
end
section
namespace Co
open D PySem
local instance : Tbl := ⟨[], fun _ => [], fun _ => none⟩
theorem zqd (ns : List Int) (k : Nat) : z3a [z12 ns, .int k] = some (.int (ns.getD k 0)) := by
 by_cases h : k < ns.length
 ·have h' : (k : Int) < (ns.length : Int) := by omega
  simp! [sp6, z3a, z7z, z12, h, h', List.getD]
 ·have h' : ¬ (k : Int) < (ns.length : Int) := by omega
  simp! [sp6, z3a, z7z, z12, h, h', List.getD]
theorem zaw {i j : Int} (h : -(2 ^ 64) < j /\ j < 2 ^ 64) : oMul (.int i) (.int j) = some (.int (i * j)) := by
 unfold oMul zn4
 simp only [decide_eq_true h.1, decide_eq_true h.2, Bool.and_self, Bool.or_true, if_true]
theorem zf1 {i j : Int} (h : 0 < j) : oMod (.int i) (.int j) = some (.int (i % j)) := if_pos h
theorem zs1 {i j : Int} (h : 0 < j /\ j < 1073741824) : oDiv (.int i) (.int j) = some (.int (i / j)) := if_pos h
theorem z5s {i j : Int} : oAdd (.int i) (.int j) = some (.int (i + j)) := rfl
theorem z30 {a b : Fs} {ε ε' : Ev} (h : a ε = some (.nx ε')) : seq a b ε = b ε' := by
 unfold seq
 rw [h]
 rfl
theorem zhy (ns : List Int) (k : Nat) : ∃ m : Int, 0 <= m /\ z50 [z12 ns, .int k] = some (.int m) := by
 have hc := zqd ns k
 have hd : 0 <= (ns.getD k 0 + 7919 * (k : Int) + 1) * 48271 % 2147483647 /\ (ns.getD k 0 + 7919 * (k : Int) + 1) * 48271 % 2147483647 < 2147483647 := ⟨Int.emod_nonneg _ (by decide), Int.emod_lt_of_pos _ (by decide)⟩
 generalize hx : (ns.getD k 0 + 7919 * (k : Int) + 1) * 48271 % 2147483647 = d at hd
 refine ⟨(d * d + 7 * d + k) % 2147483629, Int.emod_nonneg _ (by decide), ?_⟩
 have e0 : z50 [z12 ns, .int k] = (zbp [some (.imm (z12 ns)), some (.imm (.int k)), none]).bind fun o => match o with | .rt t => some t | .nx _ => some .none | _ => none := rfl
 have m1 : oMul (.int 7919) (.int k) = some (.int (7919 * k)) := by
  unfold oMul zn4
  simp
 have n0 : nmV 0 [some (.imm (z12 ns)), some (.imm (.int k)), none] = some (z12 ns) := rfl
 have n1 : nmV 1 [some (.imm (z12 ns)), some (.imm (.int k)), none] = some (.int k) := rfl
 have n1' : nm 1 [some (.imm (z12 ns)), some (.imm (.int k)), none] = some (.int k) := rfl
 have s1 : asg 2 (op2 oMod (op2 oMul (op2 oAdd (op2 oAdd (opN z3a [(nmV 0), (nmV 1)]) (op2 oMul (cst (.int 7919)) (nm 1))) (cst (.int 1))) (cst (.int 48271))) (cst (.int 2147483647))) [some (.imm (z12 ns)), some (.imm (.int k)), none] = some (.nx [some (.imm (z12 ns)), some (.imm (.int k)), some (.imm (.int d))]) := by
  simp only [asg, op2, opN, args, n0, n1, n1', y0q, y1w, hc, cst, m1, z5s, zaw (i := ns.getD k 0 + 7919 * (k : Int) + 1) (j := 48271) (by decide), zf1 (j := 2147483647) (by decide), hx]
  rfl
 have m2 : oMul (.int d) (.int d) = some (.int (d * d)) := zaw (by omega)
 have m3 : oMul (.int 7) (.int d) = some (.int (7 * d)) := zaw (by omega)
 rw [e0]
 unfold zbp
 rw [z30 s1]
 have q2 : nm 2 [some (.imm (z12 ns)), some (.imm (.int k)), some (.imm (.int d))] = some (.int d) := rfl
 have q1 : nm 1 [some (.imm (z12 ns)), some (.imm (.int k)), some (.imm (.int d))] = some (.int k) := rfl
 simp only [rtn, op2, q2, q1, y0q, y1w, cst, m2, m3, z5s, zf1 (j := 2147483629) (by decide)]
theorem zaa (n k : Int) (hk : -(2 ^ 64) < k /\ k < 2 ^ 64) : ∃ m : Int, 0 <= m /\ z1v [.int n, .int k] = some (.int m) := by
 have hd : 0 <= (n + 104729 * k + 17) * 69621 % 2147483647 /\ (n + 104729 * k + 17) * 69621 % 2147483647 < 2147483647 := ⟨Int.emod_nonneg _ (by decide), Int.emod_lt_of_pos _ (by decide)⟩
 generalize hx : (n + 104729 * k + 17) * 69621 % 2147483647 = d at hd
 refine ⟨(d * d + 3 * d + k) % 2147483629, Int.emod_nonneg _ (by decide), ?_⟩
 have e0 : z1v [.int n, .int k] = (zbq [some (.imm (.int n)), some (.imm (.int k)), none]).bind fun o => match o with | .rt t => some t | .nx _ => some .none | _ => none := rfl
 have m1 : oMul (.int 104729) (.int k) = some (.int (104729 * k)) := zaw hk
 have n0 : nm 0 [some (.imm (.int n)), some (.imm (.int k)), none] = some (.int n) := rfl
 have n1 : nm 1 [some (.imm (.int n)), some (.imm (.int k)), none] = some (.int k) := rfl
 have s1 : asg 2 (op2 oMod (op2 oMul (op2 oAdd (op2 oAdd (nm 0) (op2 oMul (cst (.int 104729)) (nm 1))) (cst (.int 17))) (cst (.int 69621))) (cst (.int 2147483647))) [some (.imm (.int n)), some (.imm (.int k)), none] = some (.nx [some (.imm (.int n)), some (.imm (.int k)), some (.imm (.int d))]) := by
  simp only [asg, op2, n0, n1, y0q, y1w, cst, m1, z5s, zaw (i := n + 104729 * k + 17) (j := 69621) (by decide), zf1 (j := 2147483647) (by decide), hx]
  rfl
 have m2 : oMul (.int d) (.int d) = some (.int (d * d)) := zaw (by omega)
 have m3 : oMul (.int 3) (.int d) = some (.int (3 * d)) := zaw (by omega)
 rw [e0]
 unfold zbq
 rw [z30 s1]
 have q2 : nm 2 [some (.imm (.int n)), some (.imm (.int k)), some (.imm (.int d))] = some (.int d) := rfl
 have q1 : nm 1 [some (.imm (.int n)), some (.imm (.int k)), some (.imm (.int d))] = some (.int k) := rfl
 simp only [rtn, op2, q2, q1, y0q, y1w, cst, m2, m3, z5s, zf1 (j := 2147483629) (by decide)]
theorem z5y (a b : Int) : oEq (.int a) (.int b) = some (.bool (decide (a = b))) := by
 unfold oEq
 rw [zas, zas]
 by_cases e : a = b <;> simp [y28, e]
theorem divQ (m : Int) (j : Int) (h : 0 < j /\ j < 1073741824 := by decide) : ∃ q, q = m / j /\ oDiv (.int m) (.int j) = some (.int q) := ⟨_, rfl, zs1 h⟩
theorem modQ (m : Int) (j : Int) (h : 0 < j := by decide) : ∃ q, q = m % j /\ 0 <= q /\ q < j /\ oMod (.int m) (.int j) = some (.int q) := ⟨_, rfl, Int.emod_nonneg _ (by omega), Int.emod_lt_of_pos _ h, zf1 h⟩
theorem ixT {ts : List T} {j : Int} (h0 : 0 <= j) (h1 : j < ts.length) : ∃ t ∈ ts, oIx (.tuple ts) (.int j) = some t := by
 have hj : j.toNat < ts.length := by omega
 refine ⟨ts[j.toNat], List.getElem_mem hj, ?_⟩
 simp only [oIx, atZ, ixOf, if_pos h0, if_pos h1, y0q]
 exact y0w hj
theorem ixS (ss : List Str) {j : Int} (h0 : 0 <= j) (h1 : j < ss.length) : ∃ s ∈ ss, oIx (.tuple (ss.map .str)) (.int j) = some (.str s) := by
 obtain ⟨t, ht, e⟩ := ixT (ts := ss.map .str) h0 (by simpa using h1)
 obtain ⟨s, hs, rfl⟩ := y0n.mp ht
 exact ⟨s, hs, e⟩
theorem ixI (ss : List Int) {j : Int} (h0 : 0 <= j) (h1 : j < ss.length) : ∃ s ∈ ss, oIx (.tuple (ss.map .int)) (.int j) = some (.int s) := by
 obtain ⟨t, ht, e⟩ := ixT (ts := ss.map .int) h0 (by simpa using h1)
 obtain ⟨s, hs, rfl⟩ := y0n.mp ht
 exact ⟨s, hs, e⟩
theorem zh0 : (5 <= big) = True := by simp [big]
theorem z7x : (4 <= big) = True := by simp [big]
theorem z42 : (3 <= big) = True := by simp [big]
theorem zjy : (6 <= big) = True := by simp [big]
theorem znh : (8 <= big) = True := by simp [big]
theorem zhs : (1 <= big) = True := by simp [big]
def bZ : Fs := (seq (asg 4 (op2 oDiv (opN z1v [(nmV 0), (nmV 2)]) (cst (.int 4))))
  (iff (orT (tstB (op2 oLt (op2 oMod (nm 4) (cst (.int 8))) (op2 oAdd (cst (.int 3)) (op2 oMod (nm 0) (cst (.int 5)))))) (tstB (op2 oEq (nm 2) (op2 oMod (op2 oDiv (nm 0) (cst (.int 8))) (cst (.int 8)))))) (asg 1 (op2 oAdd (nm 1) (z0g [(z0g [(nmV 3), (op2 oIx (z0g [(cst (.str "day")), (cst (.str "inner")), (cst (.str "once")), (cst (.str "way")), (cst (.str "way"))]) (op2 oMod (op2 oDiv (nm 4) (cst (.int 8))) (cst (.int 5))))])]))) skip))
def encK (x : Int × Str) : T := .tuple [.int x.1, .str x.2]
def kinds : List Str := ["day", "inner", "once", "way", "way"]
theorem zaf (n : Int) : ∀ (l : List (Int × Str)) (acc : List (Str × Str)) (s2 s3 s4 : Option Sl), (∀ x ∈ l, 0 <= x.1 /\ x.1 < 100) -> acc.length + l.length <= 20 -> ∃ zs s2' s3' s4', (zs.map (·.1)).Sublist (l.map (·.2)) /\ (∀ z ∈ zs, z.2 ∈ kinds) /\ ((∃ x ∈ l, x.1 = n / 8 % 8) -> zs ≠ []) /\
  forL (gTu [(gNm 2), (gNm 3)]) bZ (l.map encK) [some (.imm (.int n)), some (.imm (.tuple (acc.map encZ))), s2, s3, s4, none, none, none, none, none] = some (.nx [some (.imm (.int n)), some (.imm (.tuple ((acc ++ zs).map encZ))), s2', s3', s4', none, none, none, none, none])
 | [], acc, s2, s3, s4, _, _ => ⟨[], s2, s3, s4, .refl _, by simp, by simp, by simp [forL]⟩
 | x :: l, acc, s2, s3, s4, hx, hl => by
  obtain ⟨m, hm, e1_⟩ := zaa n x.1 (by have := hx x y0f; omega)
  obtain ⟨q, hq, e2_⟩ := divQ m 4
  obtain ⟨r, _, _, _, e3_⟩ := modQ q 8
  obtain ⟨r', _, _, _, e4_⟩ := modQ n 5
  obtain ⟨q1, hq1, e5_⟩ := divQ n 8
  obtain ⟨r1, hr1, _, _, e6_⟩ := modQ q1 8
  obtain ⟨q2, hq2, e7_⟩ := divQ q 8
  obtain ⟨r2, _, h0, h1, e8_⟩ := modQ q2 5
  obtain ⟨s, hs, e9_⟩ := ixS kinds h0 h1
  simp only [kinds, y0e, y1c] at e9_
  simp only [y0x] at hl
  have b1 : acc.length + 1 <= big := by unfold big; omega
  have hx' : ∀ y ∈ l, 0 <= y.1 /\ y.1 < 100 := fun y hy => hx y (y05 _ hy)
  by_cases hc : r < 3 + r' \/ x.1 = r1
  ·obtain ⟨zs, s2', s3', s4', i1, i2, i3, i4⟩ := zaf n l (acc ++ [(x.2, s)]) (some (.imm (.int x.1))) (some (.imm (.str x.2))) (some (.imm (.int q))) hx' (by simp; omega)
   refine ⟨(x.2, s) :: zs, s2', s3', s4', by simpa using i1, fun z hz => ?_, fun _ => by simp, ?_⟩
   ·rcases y09.mp hz with rfl | hz
    ·exact hs
    ·exact i2 z hz
   ·rw [y0e, forL]
    have : bZ [some (.imm (.int n)), some (.imm (.tuple (acc.map encZ))), some (.imm (.int x.1)), some (.imm (.str x.2)), s4, none, none, none, none, none] = some (.nx [some (.imm (.int n)), some (.imm (.tuple ((acc ++ [(x.2, s)]).map encZ))), some (.imm (.int x.1)), some (.imm (.str x.2)), some (.imm (.int q)), none, none, none, none, none]) := by
     by_cases hc' : r < 3 + r'
     ·simp! [sp9, bZ, e1_, e2_, e3_, e4_, e5_, e6_, e7_, e8_, e9_, z5s, oLt, hc', oAdd, b1, zh0, z68, zhs, encZ]
     ·have e10_ : oEq (.int x.1) (.int r1) = some (.bool true) := by rw [z5y, decide_eq_true (hc.resolve_left hc')]
      simp! [sp9, bZ, e1_, e2_, e3_, e4_, e5_, e6_, e7_, e8_, e9_, z5s, oLt, hc', e10_, oAdd, b1, zh0, z68, zhs, encZ]
    simp only [encK, gTu, gAll, gNm, y0q, y1o, y1l, this]
    simpa using i4
  ·obtain ⟨zs, s2', s3', s4', i1, i2, i3, i4⟩ := zaf n l acc (some (.imm (.int x.1))) (some (.imm (.str x.2))) (some (.imm (.int q))) hx' (by omega)
   refine ⟨zs, s2', s3', s4', i1.cons _, i2, fun ⟨y, hy, e⟩ => i3 ?_, ?_⟩
   ·rcases y09.mp hy with rfl | hy
    ·exact absurd (.inr (by rw [e, hr1, hq1])) hc
    ·exact ⟨y, hy, e⟩
   ·rw [y0e, forL]
    have : bZ [some (.imm (.int n)), some (.imm (.tuple (acc.map encZ))), some (.imm (.int x.1)), some (.imm (.str x.2)), s4, none, none, none, none, none] = some (.nx [some (.imm (.int n)), some (.imm (.tuple (acc.map encZ))), some (.imm (.int x.1)), some (.imm (.str x.2)), some (.imm (.int q)), none, none, none, none, none]) := by
     have h1' : ¬ r < 3 + r' := fun z => hc (.inl z)
     have h2' : ¬ x.1 = r1 := fun z => hc (.inr z)
     simp! [sp9, bZ, e1_, e2_, e3_, e4_, e5_, e6_, e7_, e8_, e9_, z5s, oLt, h1', h2', z5y]
    simp only [encK, gTu, gAll, gNm, y0q, y1o, y1l, this]
    exact i4
theorem rng3 : rng 0 3 = [.int 0, .int 1, .int 2] := by simp [rng, List.range_succ]
def cR : Ft := tstB (op2 oGt (op2 oMod (op2 oDiv (nm 1) (op2 oIx (z0g [(cst (.int 4)), (cst (.int 16)), (cst (.int 64))]) (nm 0))) (cst (.int 4))) (cst (.int 0)))
def eR : Fe := op2 oIx (z0g [(cst (.str "set")), (cst (.str "shunt")), (cst (.str "unset"))]) (nm 0)
def zde : List Str := ["set", "shunt", "unset"]
theorem zk7 (q : Int) (ε : Ev) (h : (ε[4]?).join = some (.imm (.int q))) : ∃ rs : List Str, rs.Sublist zde /\ comp 1 [4] (z4z (cst (.int 3))) (gNm 0) cR eR ε = some (.list (rs.map .str)) := by
 have key : ∀ j j' : Int, oIx (.tuple [.int 4, .int 16, .int 64]) (.int j) = some (.int j') -> 0 < j' -> j' < 1073741824 -> ∃ b, cR [some (.imm (.int j)), some (.imm (.int q))] = some b := by
  intro j j' h1 h2 h3
  obtain ⟨q1, _, e1_⟩ := divQ q j' ⟨h2, h3⟩
  obtain ⟨r1, _, _, _, e2_⟩ := modQ q1 4
  exact ⟨decide (0 < r1), by simp! [sp9, cR, h1, e1_, e2_, oGt, z42]⟩
 obtain ⟨b0, k0⟩ := key 0 4 (by simp [oIx, atZ, ixOf]) (by decide) (by decide)
 obtain ⟨b1, k1⟩ := key 1 16 (by simp [oIx, atZ, ixOf]) (by decide) (by decide)
 obtain ⟨b2, k2⟩ := key 2 64 (by simp [oIx, atZ, ixOf]) (by decide) (by decide)
 have r0 : eR [some (.imm (.int 0)), some (.imm (.int q))] = some (.str "set") := by simp! [sp2, eR, z42]
 have r1 : eR [some (.imm (.int 1)), some (.imm (.int q))] = some (.str "shunt") := by simp! [sp2, eR, z42]
 have r2 : eR [some (.imm (.int 2)), some (.imm (.int q))] = some (.str "unset") := by simp! [sp2, eR, z42]
 have c0 : comp 1 [4] (z4z (cst (.int 3))) (gNm 0) cR eR ε = (z48 (gNm 0) cR eR [.int 0, .int 1, .int 2] [none, some (.imm (.int q))]).map .list := by
  have s3 : z7q 3 = true := by decide
  simp [comp, z4z, cst, s3, rng3, z34, h, z42]
 rw [c0]
 cases b0 <;> cases b1 <;> cases b2
 ·exact ⟨[], by simp, by simp [z48, gNm, k0, k1, k2]⟩
 ·exact ⟨["unset"], by decide, by simp [z48, gNm, k0, k1, k2, r0, r1, r2]⟩
 ·exact ⟨["shunt"], by decide, by simp [z48, gNm, k0, k1, k2, r0, r1, r2]⟩
 ·exact ⟨["shunt", "unset"], by decide, by simp [z48, gNm, k0, k1, k2, r0, r1, r2]⟩
 ·exact ⟨["set"], by decide, by simp [z48, gNm, k0, k1, k2, r0, r1, r2]⟩
 ·exact ⟨["set", "unset"], by decide, by simp [z48, gNm, k0, k1, k2, r0, r1, r2]⟩
 ·exact ⟨["set", "shunt"], by decide, by simp [z48, gNm, k0, k1, k2, r0, r1, r2]⟩
 ·exact ⟨["set", "shunt", "unset"], by decide, by simp [z48, gNm, k0, k1, k2, r0, r1, r2]⟩
def bC : Fs := (seq (asg 4 (op2 oDiv (opN z1v [(nmV 0), (op2 oAdd (cst (.int 10)) (nm 2))]) (cst (.int 4))))
  (iff (orT (tstB (op2 oGt (op2 oMod (nm 4) (cst (.int 3))) (cst (.int 0)))) (tstB (op2 oEq (nm 2) (cst (.int 1))))) (seq (asg 7 (opN z3n [(comp 1 [4] (z4z (cst (.int 3))) (gNm 0) cR eR)]))
  (seq (asg 8 (op2 oIx (z0g [(cst (.str "ann")), (cst (.str "bo")), (cst (.str "cy"))]) (op2 oMod (op2 oDiv (nm 4) (cst (.int 256))) (cst (.int 3)))))
  (asg 5 (op2 oAdd (nm 5) (z0g [(z0g [(nmV 6), (nmV 8), (nmV 7), (op2 oIx (z0g [(cst (.int 0)), (cst (.int 0)), (cst (.int 1)), (cst (.int 2)), (cst (.int 9))]) (op2 oMod (op2 oDiv (nm 4) (cst (.int 1024))) (cst (.int 5))))])]))))) skip))
def whos : List Str := ["ann", "bo", "cy"]
theorem z9f (n : Int) (s1 s3 : Option Sl) : ∀ (l : List (Int × Str)) (acc : List Cd) (s2 s4 s6 s7 s8 : Option Sl), (∀ x ∈ l, 0 <= x.1 /\ x.1 < 100) -> acc.length + l.length <= 20 -> ∃ ks s2' s4' s6' s7' s8', (ks.map (·.fig)).Sublist (l.map (·.2)) /\ (∀ k ∈ ks, k.who ∈ whos /\ k.rights.Sublist zde /\ k.uses ∈ ([0, 0, 1, 2, 9] : List Int)) /\ ((∃ x ∈ l, x.1 = 1) -> ks ≠ []) /\
  forL (gTu [(gNm 2), (gNm 6)]) bC (l.map encK) [some (.imm (.int n)), s1, s2, s3, s4, some (.imm (.tuple (acc.map z1i))), s6, s7, s8, none] = some (.nx [some (.imm (.int n)), s1, s2', s3, s4', some (.imm (.tuple ((acc ++ ks).map z1i))), s6', s7', s8', none])
 | [], acc, s2, s4, s6, s7, s8, _, _ => ⟨[], s2, s4, s6, s7, s8, .refl _, by simp, by simp, by simp [forL]⟩
 | x :: l, acc, s2, s4, s6, s7, s8, hx, hl => by
  obtain ⟨m, hm, e1_⟩ := zaa n (10 + x.1) (by have := hx x y0f; omega)
  obtain ⟨q, hq, e2_⟩ := divQ m 4
  obtain ⟨r, _, _, _, e3_⟩ := modQ q 3
  obtain ⟨q1, hq1, e5_⟩ := divQ q 256
  obtain ⟨r1, hr1, h0, h1, e6_⟩ := modQ q1 3
  obtain ⟨q2, hq2, e7_⟩ := divQ q 1024
  obtain ⟨r2, _, h2, h3, e8_⟩ := modQ q2 5
  obtain ⟨s, hs, e9_⟩ := ixS whos h0 h1
  obtain ⟨u, hu, e10_⟩ := ixI [0, 0, 1, 2, 9] h2 h3
  simp only [whos, y0e, y1c] at e9_ e10_
  simp only [y0x] at hl
  have b1 : acc.length + 1 <= big := by unfold big; omega
  have hx' : ∀ y ∈ l, 0 <= y.1 /\ y.1 < 100 := fun y hy => hx y (y05 _ hy)
  obtain ⟨rs, hrs, e11_⟩ := zk7 q [some (.imm (.int n)), s1, some (.imm (.int x.1)), s3, some (.imm (.int q)), some (.imm (.tuple (acc.map z1i))), some (.imm (.str x.2)), s7, s8, none] rfl
  by_cases hc : 0 < r \/ x.1 = 1
  ·obtain ⟨ks, s2', s4', s6', s7', s8', i1, i2, i3, i4⟩ := z9f n s1 s3 l (acc ++ [(⟨x.2, s, rs, u⟩ : Cd)]) (some (.imm (.int x.1))) (some (.imm (.int q))) (some (.imm (.str x.2))) (some (.imm (.tuple (rs.map .str)))) (some (.imm (.str s))) hx' (by simp; omega)
   refine ⟨⟨x.2, s, rs, u⟩ :: ks, s2', s4', s6', s7', s8', by simpa using i1, fun z hz => ?_, fun _ => by simp, ?_⟩
   ·rcases y09.mp hz with rfl | hz
    ·exact ⟨hs, hrs, hu⟩
    ·exact i2 z hz
   ·rw [y0e, forL]
    have : bC [some (.imm (.int n)), s1, some (.imm (.int x.1)), s3, s4, some (.imm (.tuple (acc.map z1i))), some (.imm (.str x.2)), s7, s8, none] = some (.nx [some (.imm (.int n)), s1, some (.imm (.int x.1)), s3, some (.imm (.int q)), some (.imm (.tuple ((acc ++ [(⟨x.2, s, rs, u⟩ : Cd)]).map z1i))), some (.imm (.str x.2)), some (.imm (.tuple (rs.map .str))), some (.imm (.str s)), none]) := by
     have s1' : asg 4 (op2 oDiv (opN z1v [(nmV 0), (op2 oAdd (cst (.int 10)) (nm 2))]) (cst (.int 4))) [some (.imm (.int n)), s1, some (.imm (.int x.1)), s3, s4, some (.imm (.tuple (acc.map z1i))), some (.imm (.str x.2)), s7, s8, none] = some (.nx [some (.imm (.int n)), s1, some (.imm (.int x.1)), s3, some (.imm (.int q)), some (.imm (.tuple (acc.map z1i))), some (.imm (.str x.2)), s7, s8, none]) := by
      simp! [sp9, z5s, e1_, e2_]
     have s2' : asg 7 (opN z3n [(comp 1 [4] (z4z (cst (.int 3))) (gNm 0) cR eR)]) [some (.imm (.int n)), s1, some (.imm (.int x.1)), s3, some (.imm (.int q)), some (.imm (.tuple (acc.map z1i))), some (.imm (.str x.2)), s7, s8, none] = some (.nx [some (.imm (.int n)), s1, some (.imm (.int x.1)), s3, some (.imm (.int q)), some (.imm (.tuple (acc.map z1i))), some (.imm (.str x.2)), some (.imm (.tuple (rs.map .str))), s8, none]) := by
      simp only [asg, opN, args, e11_, y0q, y1w, z3n]
      rfl
     unfold bC
     rw [z30 s1']
     have ct : orT (tstB (op2 oGt (op2 oMod (nm 4) (cst (.int 3))) (cst (.int 0)))) (tstB (op2 oEq (nm 2) (cst (.int 1)))) [some (.imm (.int n)), s1, some (.imm (.int x.1)), s3, some (.imm (.int q)), some (.imm (.tuple (acc.map z1i))), some (.imm (.str x.2)), s7, s8, none] = some true := by
      by_cases hc' : 0 < r
      ·simp! [sp9, e3_, oGt, hc']
      ·have e12_ : oEq (.int x.1) (.int 1) = some (.bool true) := by rw [z5y, decide_eq_true (hc.resolve_left hc')]
       simp! [sp9, e3_, oGt, hc', e12_]
     simp only [iff, ct, y0q, if_true]
     rw [z30 s2']
     simp! [sp9, e3_, e5_, e6_, e7_, e8_, e9_, e10_, oAdd, b1, zh0, z7x, z42, zhs, z1i]
    simp only [encK, gTu, gAll, gNm, y0q, y1o, y1l, this]
    simpa using i4
  ·obtain ⟨ks, s2', s4', s6', s7', s8', i1, i2, i3, i4⟩ := z9f n s1 s3 l acc (some (.imm (.int x.1))) (some (.imm (.int q))) (some (.imm (.str x.2))) s7 s8 hx' (by omega)
   refine ⟨ks, s2', s4', s6', s7', s8', i1.cons _, i2, fun ⟨y, hy, e⟩ => i3 ?_, ?_⟩
   ·rcases y09.mp hy with rfl | hy
    ·exact absurd (.inr e) hc
    ·exact ⟨y, hy, e⟩
   ·rw [y0e, forL]
    have : bC [some (.imm (.int n)), s1, some (.imm (.int x.1)), s3, s4, some (.imm (.tuple (acc.map z1i))), some (.imm (.str x.2)), s7, s8, none] = some (.nx [some (.imm (.int n)), s1, some (.imm (.int x.1)), s3, some (.imm (.int q)), some (.imm (.tuple (acc.map z1i))), some (.imm (.str x.2)), s7, s8, none]) := by
     have h1' : ¬ 0 < r := fun z => hc (.inl z)
     have e12_ : oEq (.int x.1) (.int 1) = some (.bool false) := by rw [z5y, decide_eq_false fun z => hc (.inr z)]
     simp! [sp9, bC, e1_, e2_, e3_, z5s, oGt, h1', e12_]
    simp only [encK, gTu, gAll, gNm, y0q, y1o, y1l, this]
    exact i4
def zN : List (Int × Str) := [(0, "a"), (1, "b"), (2, "back"), (3, "d"), (4, "hall"), (5, "r"), (6, "win"), (7, "z")]
def cN : List (Int × Str) := [(0, "0000"), (1, "1234"), (2, "4321"), (3, "7777"), (4, "9990"), (5, "9999")]
structure DP (p : Pl) : Prop where
 zs : (p.zones.map (·.1)).Sublist (zN.map (·.2))
 zk : ∀ z ∈ p.zones, z.2 ∈ kinds
 z0 : p.zones ≠ []
 cs : (p.codes.map (·.fig)).Sublist (cN.map (·.2))
 ck : ∀ k ∈ p.codes, k.who ∈ whos /\ k.rights.Sublist zde /\ k.uses ∈ ([0, 0, 1, 2, 9] : List Int)
 c0 : p.codes ≠ []
 tl : p.leave ∈ ([0, 5, 30, 60] : List Int)
 tc : p.come ∈ ([0, 4, 20, 60] : List Int)
 to : p.loud ∈ ([1, 9, 120, 300] : List Int)
theorem zpb (n : Int) : ∃ p, DP p /\ zab [.int n] = some (encP p) := by
 obtain ⟨zs, s2, s3, s4, i1, i2, i3, i4⟩ := zaf n zN [] none none none (by decide) (by decide)
 have hz0 : zs ≠ [] := i3 (by
  have h1 : 0 <= n / 8 % 8 := Int.emod_nonneg _ (by decide)
  have h2 : n / 8 % 8 < 8 := Int.emod_lt_of_pos _ (by decide)
  generalize n / 8 % 8 = r at h1 h2
  have : r = 0 \/ r = 1 \/ r = 2 \/ r = 3 \/ r = 4 \/ r = 5 \/ r = 6 \/ r = 7 := by omega
  rcases this with rfl | rfl | rfl | rfl | rfl | rfl | rfl | rfl
  ·exact ⟨(0, "a"), by simp [zN], rfl⟩
  ·exact ⟨(1, "b"), by simp [zN], rfl⟩
  ·exact ⟨(2, "back"), by simp [zN], rfl⟩
  ·exact ⟨(3, "d"), by simp [zN], rfl⟩
  ·exact ⟨(4, "hall"), by simp [zN], rfl⟩
  ·exact ⟨(5, "r"), by simp [zN], rfl⟩
  ·exact ⟨(6, "win"), by simp [zN], rfl⟩
  ·exact ⟨(7, "z"), by simp [zN], rfl⟩)
 obtain ⟨ks, t2, t4, t6, t7, t8, j1, j2, j3, j4⟩ := z9f n (some (.imm (.tuple (zs.map encZ)))) s3 cN [] s2 s4 none none none (by decide) (by decide)
 have hk0 : ks ≠ [] := j3 ⟨(1, "1234"), by simp [cN], rfl⟩
 obtain ⟨m, hm, e1_⟩ := zaa n 20 (by decide)
 obtain ⟨q, hq, e2_⟩ := divQ m 4
 obtain ⟨r, _, a0, a1, e3_⟩ := modQ q 4
 obtain ⟨q1, hq1, e4_⟩ := divQ q 4
 obtain ⟨r1, _, b0, b1, e5_⟩ := modQ q1 4
 obtain ⟨q2, hq2, e6_⟩ := divQ q 16
 obtain ⟨r2, _, c0, c1, e7_⟩ := modQ q2 4
 obtain ⟨u, hu, e8_⟩ := ixI [0, 5, 30, 60] a0 a1
 obtain ⟨v, hv, e9_⟩ := ixI [0, 4, 20, 60] b0 b1
 obtain ⟨w, hw, e10_⟩ := ixI [1, 9, 120, 300] c0 c1
 simp only [y0e, y1c] at e8_ e9_ e10_
 refine ⟨⟨zs, ks, u, v, w⟩, ⟨i1, i2, hz0, j1, j2, hk0, hu, hv, hw⟩, ?_⟩
 have f1 : for_ (z6c (z9z (z0g [(cst (.str "a")), (cst (.str "b")), (cst (.str "back")), (cst (.str "d")), (cst (.str "hall")), (cst (.str "r")), (cst (.str "win")), (cst (.str "z"))]))) (gTu [(gNm 2), (gNm 3)]) bZ [some (.imm (.int n)), some (.imm (.tuple [])), none, none, none, none, none, none, none, none] = some (.nx [some (.imm (.int n)), some (.imm (.tuple (zs.map encZ))), s2, s3, s4, none, none, none, none, none]) := by
  have : (z6c (z9z (z0g [(cst (.str "a")), (cst (.str "b")), (cst (.str "back")), (cst (.str "d")), (cst (.str "hall")), (cst (.str "r")), (cst (.str "win")), (cst (.str "z"))]))) [some (.imm (.int n)), some (.imm (.tuple [])), none, none, none, none, none, none, none, none] = some (zN.map encK) := by
   simp [z6c, z9z, z0g, args, cst, znh, enum, zN, encK, List.zipIdx]
  unfold for_
  rw [this]
  exact i4
 have f2 : for_ (z6c (z9z (z0g [(cst (.str "0000")), (cst (.str "1234")), (cst (.str "4321")), (cst (.str "7777")), (cst (.str "9990")), (cst (.str "9999"))]))) (gTu [(gNm 2), (gNm 6)]) bC [some (.imm (.int n)), some (.imm (.tuple (zs.map encZ))), s2, s3, s4, some (.imm (.tuple [])), none, none, none, none] = some (.nx [some (.imm (.int n)), some (.imm (.tuple (zs.map encZ))), t2, s3, t4, some (.imm (.tuple (ks.map z1i))), t6, t7, t8, none]) := by
  have : (z6c (z9z (z0g [(cst (.str "0000")), (cst (.str "1234")), (cst (.str "4321")), (cst (.str "7777")), (cst (.str "9990")), (cst (.str "9999"))]))) [some (.imm (.int n)), some (.imm (.tuple (zs.map encZ))), s2, s3, s4, some (.imm (.tuple [])), none, none, none, none] = some (cN.map encK) := by
   simp [z6c, z9z, z0g, args, cst, zjy, enum, cN, encK, List.zipIdx]
  unfold for_
  rw [this]
  exact j4
 show runF (seq (asg 1 (z0g [])) (seq (for_ (z6c (z9z (z0g [(cst (.str "a")), (cst (.str "b")), (cst (.str "back")), (cst (.str "d")), (cst (.str "hall")), (cst (.str "r")), (cst (.str "win")), (cst (.str "z"))]))) (gTu [(gNm 2), (gNm 3)]) bZ)
  (seq (asg 5 (z0g [])) (seq (for_ (z6c (z9z (z0g [(cst (.str "0000")), (cst (.str "1234")), (cst (.str "4321")), (cst (.str "7777")), (cst (.str "9990")), (cst (.str "9999"))]))) (gTu [(gNm 2), (gNm 6)]) bC) _)))) 10 [.int n] = _
 unfold runF
 have g0 : seq (asg 1 (z0g [])) = fun b => seq (asg 1 (z0g [])) b := rfl
 have h1 : asg 1 (z0g []) [some (.imm (.int n)), none, none, none, none, none, none, none, none, none] = some (.nx [some (.imm (.int n)), some (.imm (.tuple [])), none, none, none, none, none, none, none, none]) := by simp [asg, z0g, args]
 have h5 : asg 5 (z0g []) [some (.imm (.int n)), some (.imm (.tuple (zs.map encZ))), s2, s3, s4, none, none, none, none, none] = some (.nx [some (.imm (.int n)), some (.imm (.tuple (zs.map encZ))), s2, s3, s4, some (.imm (.tuple [])), none, none, none, none]) := by simp [asg, z0g, args]
 show (seq _ _ [some (.imm (.int n)), none, none, none, none, none, none, none, none, none]).bind _ = _
 rw [z30 h1, z30 f1, z30 h5, z30 f2]
 simp! [sp9, e1_, e2_, e3_, e4_, e5_, e6_, e7_, e8_, e9_, e10_, z7x, z42, encP]
theorem DP.zl {p : Pl} (h : DP p) : p.zones.length <= 8 := by simpa [zN] using h.zs.length_le
theorem DP.cl {p : Pl} (h : DP p) : p.codes.length <= 6 := by simpa [cN] using h.cs.length_le
theorem z4j {l : List Str} (h : l.all (fun x => (y23 x).canLay0) = true := by decide +kernel) {x : Str} (hx : x ∈ l) : okS x := List.all_eq_true.mp h x hx
theorem DP.wp {p : Pl} (h : DP p) : Wp p := by
 refine ⟨?_, ?_, ?_, ?_⟩
 ·exact h.cs.nodup (by decide +kernel)
 ·exact h.zs.nodup (by decide +kernel)
 ·have := h.cl
  omega
 ·have h1 := h.tl
  have h2 := h.tc
  have h3 := h.to
  simp at h1 h2 h3
  omega
theorem DP.okz {p : Pl} (h : DP p) : ∀ z ∈ p.zones, okS z.1 /\ okS z.2 := fun z hz => ⟨z4j (l := zN.map (·.2)) (hx := h.zs.subset (y0n.mpr ⟨z, hz, rfl⟩)), z4j (l := kinds) (hx := h.zk z hz)⟩
theorem DP.okc {p : Pl} (h : DP p) : ∀ k ∈ p.codes, okS k.fig /\ okS k.who /\ ∀ r ∈ k.rights, okS r := fun k hk => ⟨z4j (l := cN.map (·.2)) (hx := h.cs.subset (y0n.mpr ⟨k, hk, rfl⟩)), z4j (l := whos) (hx := (h.ck k hk).1), fun r hr => z4j (l := zde) (hx := (h.ck k hk).2.1.subset hr)⟩
theorem DP.begun {p : Pl} (h : DP p) : Wf p (z2v p) := by
 refine ⟨h.okz, h.okc, ?_, z02 "off", fun z e => (nomatch e), fun e => absurd e z2t, ?_, ?_, ?_, by simp [z2v], by simp [z2v]⟩
 ·have := h.zl
  omega
 ·simp [z2v, y19]
 ·intro l hl
  obtain ⟨z, _, rfl⟩ := y0n.mp hl
  exact z02 "shut"
 ·simp [z2v, y19]
end Co
end
section
namespace Co
open D PySem
theorem ix_z (p : Pl) : oIx (encP p) (.int 0) = some (.tuple (p.zones.map encZ)) := by simp [oIx, atZ, ixOf, encP]
theorem ix_c (p : Pl) : oIx (encP p) (.int 1) = some (.tuple (p.codes.map z1i)) := by simp [oIx, atZ, ixOf, encP]
theorem znb (z : Str × Str) : oIx (encZ z) (.int 0) = some (.str z.1) := by simp [oIx, atZ, ixOf, encZ]
theorem zt6 (k : Cd) : oIx (z1i k) (.int 0) = some (.str k.fig) := by simp [oIx, atZ, ixOf, z1i]
theorem modL (m : Int) {l : List T} (h : l ≠ []) : ∃ q : Int, 0 <= q /\ q < l.length /\ oMod (.int m) (.int l.length) = some (.int q) := by
 have hl : 0 < (l.length : Int) := by
  have := List.length_pos_iff.mpr h
  omega
 obtain ⟨q, _, h1, h2, e⟩ := modQ m l.length hl
 exact ⟨q, h1, h2, e⟩
def zh1 : List Str := ["0000", "1234", "4321", "7777", "9990", "9999", "0001", "1111", "5555"]
def DE (p : Pl) : Et -> Prop
 | .line z w => z ∈ p.zones.map (·.1) /\ w ∈ (["shut", "open", "open", "cut"] : List Str)
 | .code f d z => f ∈ zh1 /\ (((d = "set" \/ d = "unset") /\ z = none) \/ ((d = "shunt" \/ d = "free") /\ ∃ x, z = some x /\ x ∈ p.zones.map (·.1)))
 | .ticks n => 1 <= n /\ n <= 1000000000
theorem DE.ok {p : Pl} {e : Et} (h : DE p e) : okE p e := by
 cases e with
 | line z w =>
  obtain ⟨h1, h2⟩ := h
  simp at h2
  exact ⟨h1, h2⟩
 | ticks n => exact h.1
 | code f d z =>
  obtain ⟨h1, h2⟩ := h
  refine ⟨z4j (l := zh1) (hx := h1), ?_, ?_⟩
  ·rcases h2 with ⟨h2 | h2, _⟩ | ⟨h2 | h2, _⟩
   ·exact .inl h2
   ·exact .inr (.inl h2)
   ·exact .inr (.inr (.inl h2))
   ·exact .inr (.inr (.inr h2))
  ·intro hd
   rcases h2 with ⟨h2 | h2, _⟩ | ⟨_, h3⟩
   ·rcases hd with hd | hd
    ·exact absurd (h2.symm.trans hd) zav
    ·exact absurd (h2.symm.trans hd) z9b
   ·rcases hd with hd | hd
    ·exact absurd (h2.symm.trans hd) z8j
    ·exact absurd (h2.symm.trans hd) z6p
   ·exact h3
theorem zng {p : Pl} (h : DP p) (n : Int) : ∃ e, DE p e /\ z47 [encP p, .int n] = some (encE e) := by
 obtain ⟨q1, _, e1_⟩ := divQ n 8
 obtain ⟨i, i0, i1, e2_⟩ := modL (l := p.zones.map encZ) q1 (by simpa using h.z0)
 obtain ⟨t, ht, e3_⟩ := ixT i0 i1
 obtain ⟨z, hz, rfl⟩ := y0n.mp ht
 have hz1 : z.1 ∈ p.zones.map (·.1) := y0n.mpr ⟨z, hz, rfl⟩
 obtain ⟨k, _, _, _, e4_⟩ := modQ n 10
 obtain ⟨q2, _, e5_⟩ := divQ n 512
 obtain ⟨r2, _, j0, j1, e6_⟩ := modQ q2 4
 obtain ⟨w, hw, e7_⟩ := ixS ["shut", "open", "open", "cut"] j0 j1
 obtain ⟨f', hf', e8_⟩ := ixS ["0001", "1111", "9999", "0000"] j0 j1
 obtain ⟨q3, _, e9_⟩ := divQ n 64
 obtain ⟨q4, _, e10_⟩ := divQ n 4096
 obtain ⟨r4, _, k0, k1, e11_⟩ := modQ q4 3
 obtain ⟨u, hu, e12_⟩ := ixI [3, 40, 200] k0 k1
 have hu' : 0 < u /\ u <= 200 := by
  simp at hu
  omega
 obtain ⟨r3, _, l0, l1, e13_⟩ := modQ q3 u hu'.1
 obtain ⟨i', i0', i1', e14_⟩ := modL (l := p.codes.map z1i) q3 (by simpa using h.c0)
 obtain ⟨t', ht', e15_⟩ := ixT i0' i1'
 obtain ⟨c, hc, rfl⟩ := y0n.mp ht'
 have hcf : c.fig ∈ zh1 := by
  have := h.cs.subset (y0n.mpr ⟨c, hc, rfl⟩)
  simp [cN, zh1] at this ⊢
  rcases this with q | q | q | q | q | q <;> simp [q]
 obtain ⟨q5, _, e16_⟩ := divQ n 65536
 obtain ⟨r5, _, _, _, e17_⟩ := modQ q5 4
 obtain ⟨r6, _, m0, m1, e18_⟩ := modQ q4 6
 obtain ⟨d, hd, e19_⟩ := ixS ["set", "set", "unset", "shunt", "free", "shunt"] m0 m1
 simp only [y0e, y1c] at e7_ e8_ e12_ e19_
 simp only [y16] at e2_ e14_
 have L1 : oLen [.tuple (p.zones.map encZ)] = some (.int p.zones.length) := by simp [oLen]
 have L2 : oLen [.tuple (p.codes.map z1i)] = some (.int p.codes.length) := by simp [oLen]
 simp only [z47, zfy, runF, y0e, y1c, y0x, List.length_nil, y0h, List.cons_append, List.nil_append]
 by_cases h1 : k < 5
 ·exact ⟨.line z.1 w, ⟨hz1, hw⟩, by simp! [sp9, ix_z, znb, e1_, L1, e2_, e3_, e4_, oLt, h1, e5_, e6_, e7_, z7x, z42, encE]⟩
 ·by_cases h2 : k < 7
  ·exact ⟨.ticks (1 + r3), ⟨by omega, by omega⟩, by simp! [sp9, ix_z, znb, e1_, L1, e2_, e3_, e4_, oLt, h1, h2, e9_, e10_, e11_, e12_, e13_, z5s, z42, z68, encE]⟩
  ·have od : okS d := z4j (l := ["set", "set", "unset", "shunt", "free", "shunt"]) (hx := hd)
   have qi := z8h false (n := d) (ns := ["set", "unset"]) od (by
    intro k hk
    exact z4j (l := ["set", "unset"]) (hx := hk))
   simp only [y0e, y1c] at qi
   obtain ⟨f, hf, ef⟩ : ∃ f ∈ zh1, (iff (tstB (op2 oEq (op2 oMod (op2 oDiv (nm 1) (cst (.int 65536))) (cst (.int 4))) (cst (.int 0)))) (asg 4 (op2 oIx (z0g [(cst (.str "0001")), (cst (.str "1111")), (cst (.str "9999")), (cst (.str "0000"))]) (op2 oMod (op2 oDiv (nm 1) (cst (.int 512))) (cst (.int 4))))) skip) [some (.imm (encP p)), some (.imm (.int n)), some (.imm (.str z.1)), some (.imm (.int k)), some (.imm (.str c.fig)), none] = some (.nx [some (.imm (encP p)), some (.imm (.int n)), some (.imm (.str z.1)), some (.imm (.int k)), some (.imm (.str f)), none]) := by
    by_cases h3 : r5 = 0
    ·refine ⟨f', ?_, by simp! [sp9, e16_, e17_, z5y, h3, e5_, e6_, e8_, z7x]⟩
     simp [zh1] at hf' ⊢
     rcases hf' with q | q | q | q <;> simp [q]
    ·exact ⟨c.fig, hcf, by simp! [sp9, e16_, e17_, z5y, h3]⟩
   have sA : ∀ X : Fs, iff (tstB (op2 oLt (nm 3) (cst (.int 5)))) X skip [some (.imm (encP p)), some (.imm (.int n)), some (.imm (.str z.1)), some (.imm (.int k)), none, none] = some (.nx [some (.imm (encP p)), some (.imm (.int n)), some (.imm (.str z.1)), some (.imm (.int k)), none, none]) := fun X => by simp! [sp9, oLt, h1]
   have sB : ∀ X : Fs, iff (tstB (op2 oLt (nm 3) (cst (.int 7)))) X skip [some (.imm (encP p)), some (.imm (.int n)), some (.imm (.str z.1)), some (.imm (.int k)), none, none] = some (.nx [some (.imm (encP p)), some (.imm (.int n)), some (.imm (.str z.1)), some (.imm (.int k)), none, none]) := fun X => by simp! [sp9, oLt, h2]
   have sC : asg 4 (op2 oIx (op2 oIx (op2 oIx (nm 0) (cst (.int 1))) (op2 oMod (op2 oDiv (nm 1) (cst (.int 64))) (opN oLen [(op2 oIx (nm 0) (cst (.int 1)))]))) (cst (.int 0))) [some (.imm (encP p)), some (.imm (.int n)), some (.imm (.str z.1)), some (.imm (.int k)), none, none] = some (.nx [some (.imm (encP p)), some (.imm (.int n)), some (.imm (.str z.1)), some (.imm (.int k)), some (.imm (.str c.fig)), none]) := by simp! [sp9, ix_c, L2, e9_, e14_, e15_, zt6]
   by_cases h4 : d = "set" \/ d = "unset"
   ·refine ⟨.code f d none, ⟨hf, .inl ⟨h4, rfl⟩⟩, ?_⟩
    have qi' : oIn false (.str d) (.tuple [.str "set", .str "unset"]) = some (.bool true) := by
     rw [qi]
     simp [h4]
    have pre : ∀ B : Fs, (seq (asg 2 (op2 oIx (op2 oIx (op2 oIx (nm 0) (cst (.int 0))) (op2 oMod (op2 oDiv (nm 1) (cst (.int 8))) (opN oLen [(op2 oIx (nm 0) (cst (.int 0)))]))) (cst (.int 0)))) (seq (asg 3 (op2 oMod (nm 1) (cst (.int 10)))) B)) [some (.imm (encP p)), some (.imm (.int n)), none, none, none, none] = B [some (.imm (encP p)), some (.imm (.int n)), some (.imm (.str z.1)), some (.imm (.int k)), none, none] := by
     intro B
     simp! [sp9, ix_z, znb, e1_, L1, e2_, e3_, e4_]
    rw [pre]
    rw [z30 (sA _), z30 (sB _), z30 sC, z30 ef]
    simp! [sp9, e10_, e18_, e19_, zjy, z68, qi', z7x, encE, oS]
   ·refine ⟨.code f d (some z.1), ⟨hf, .inr ⟨?_, z.1, rfl, hz1⟩⟩, ?_⟩
    ·simp at hd
     rcases hd with q | q | q | q | q
     ·exact absurd (.inl q) h4
     ·exact absurd (.inr q) h4
     ·exact .inl q
     ·exact .inr q
     ·exact .inl q
    have qi' : oIn false (.str d) (.tuple [.str "set", .str "unset"]) = some (.bool false) := by
     rw [qi]
     simp at h4
     simp [h4]
    have pre : ∀ B : Fs, (seq (asg 2 (op2 oIx (op2 oIx (op2 oIx (nm 0) (cst (.int 0))) (op2 oMod (op2 oDiv (nm 1) (cst (.int 8))) (opN oLen [(op2 oIx (nm 0) (cst (.int 0)))]))) (cst (.int 0)))) (seq (asg 3 (op2 oMod (nm 1) (cst (.int 10)))) B)) [some (.imm (encP p)), some (.imm (.int n)), none, none, none, none] = B [some (.imm (encP p)), some (.imm (.int n)), some (.imm (.str z.1)), some (.imm (.int k)), none, none] := by
     intro B
     simp! [sp9, ix_z, znb, e1_, L1, e2_, e3_, e4_]
    rw [pre]
    rw [z30 (sA _), z30 (sB _), z30 sC, z30 ef]
    simp! [sp9, e10_, e18_, e19_, zjy, z68, qi', z7x, encE, oS]
def zc7 : List Et := [.code "5555" "unset" none, .code "5555" "unset" none, .code "5555" "unset" none]
theorem zho {p : Pl} (h : DP p) (n : Int) : ∀ (ks : List Int) (s0 : Option Sl), (∀ k ∈ ks, 0 <= k /\ k < 1000) -> ∃ es : List Et, (∀ e ∈ es, DE p e) /\ es.length = ks.length /\ z48 (gNm 0) (cstT true) (opN z47 [(nmV 1), (op2 oDiv (opN z1v [(nmV 2), (op2 oAdd (cst (.int 30)) (nm 0))]) (cst (.int 4)))]) (ks.map .int) [s0, some (.imm (encP p)), some (.imm (.int n))] = some (es.map encE)
 | [], s0, _ => ⟨[], by simp, rfl, rfl⟩
 | k :: ks, s0, hk => by
  obtain ⟨m, _, e1_⟩ := zaa n (30 + k) (by have := hk k y0f; omega)
  obtain ⟨q, _, e2_⟩ := divQ m 4
  obtain ⟨e, he, e3_⟩ := zng h q
  obtain ⟨es, i1, i2, i3⟩ := zho h n ks (some (.imm (.int k))) fun y hy => hk y (y05 _ hy)
  refine ⟨e :: es, fun x hx => ?_, by simp [i2], ?_⟩
  ·rcases y09.mp hx with rfl | hx
   ·exact he
   ·exact i1 x hx
  ·have hc : opN z47 [(nmV 1), (op2 oDiv (opN z1v [(nmV 2), (op2 oAdd (cst (.int 30)) (nm 0))]) (cst (.int 4)))] [some (.imm (.int k)), some (.imm (encP p)), some (.imm (.int n))] = some (encE e) := by
    simp! [sp9, z5s, e1_, e2_, e3_]
   rw [y0e]
   simp only [z48, gNm, y1l, y0q, cstT, if_true, hc]
   rw [i3]
   rfl
theorem zqu {p : Pl} (h : DP p) (n m : Int) (hn : 0 <= n) (hm : 0 <= m /\ m < 900) : ∃ es : List Et, (∀ e ∈ es, DE p e) /\ (es.length : Int) <= m /\ z9d [encP p, .int n, .int m] = some (.tuple (es.map encE)) := by
 obtain ⟨r, _, r0, r1, e1_⟩ := modQ n (m + 1) (by omega)
 have hks : rng 0 r = ((List.range r.toNat).map fun (k : Nat) => (k : Int)).map .int := by
  simp [rng, y19]
 obtain ⟨es, i1, i2, i3⟩ := zho h n ((List.range r.toNat).map fun (k : Nat) => (k : Int)) none (by
  intro k hk
  obtain ⟨j, hj, rfl⟩ := y0n.mp hk
  have := List.mem_range.mp hj
  omega)
 have hl : (es.length : Int) = r := by
  simp at i2
  omega
 obtain ⟨q, _, e2_⟩ := divQ n 64
 obtain ⟨r', _, _, _, e3_⟩ := modQ q 5
 have s62 : z7q r = true := by
  unfold z7q
  simp
  omega
 have s1 : asg 3 (opN z3n [(comp 1 [0, 1] (z4z (op2 oMod (nm 1) (op2 oAdd (nm 2) (cst (.int 1))))) (gNm 0) (cstT true) (opN z47 [(nmV 1), (op2 oDiv (opN z1v [(nmV 2), (op2 oAdd (cst (.int 30)) (nm 0))]) (cst (.int 4)))]))]) [some (.imm (encP p)), some (.imm (.int n)), some (.imm (.int m)), none] = some (.nx [some (.imm (encP p)), some (.imm (.int n)), some (.imm (.int m)), some (.imm (.tuple (es.map encE)))]) := by
  have b1 : ((((List.range r.toNat).map fun (k : Nat) => (k : Int)).map PyData.int).length <= big) = True := by
   simp
   unfold big
   omega
  have it : (z4z (op2 oMod (nm 1) (op2 oAdd (nm 2) (cst (.int 1))))) [some (.imm (encP p)), some (.imm (.int n)), some (.imm (.int m)), none] = some (((List.range r.toNat).map fun (k : Nat) => (k : Int)).map .int) := by
   rw [<- hks]
   simp [z4z, op2, nm, cst, z5s, e1_, s62]
  simp only [asg, opN, args, comp, it, y0q, b1, if_true]
  show Option.map _ ((Option.bind (Option.map _ (z48 _ _ _ _ [none, some (.imm (encP p)), some (.imm (.int n))])) _).bind _) = _
  rw [i3]
  simp [z3n]
 have e0 : z9d [encP p, .int n, .int m] = (ze0 [some (.imm (encP p)), some (.imm (.int n)), some (.imm (.int m)), none]).bind fun o => match o with | .rt t => some t | .nx _ => some .none | _ => none := rfl
 by_cases hc : r' = 0 /\ 2 < (es.length : Int)
 ·refine ⟨es.take (es.length - 3) ++ zc7, ?_, ?_, ?_⟩
  ·intro e he
   rcases y13.mp he with q | q
   ·exact i1 e (List.mem_of_mem_take q)
   ·simp [zc7] at q
    subst q
    exact ⟨by simp [zh1], .inl ⟨.inr rfl, rfl⟩⟩
  ·simp [zc7]
   omega
  ·rw [e0]
   unfold ze0
   rw [z30 s1]
   have b1 : (es.length - 3 + 3 <= big) = True := by
    simp only [eq_iff_iff, iff_true]
    unfold big
    omega
   have b2 : (max (-3 + (es.length : Int)) 0).toNat = es.length - 3 := by omega
   have b3 : min (es.length - 3) es.length = es.length - 3 := by omega
   have b4 : oRep (.tuple [encE (.code "5555" "unset" none)]) (.int 3) = some (.tuple (zc7.map encE)) := by
    simp [oRep, zc7, y0h, z42]
   simp only [encE, oS] at b4
   simp! [sp9, e2_, e3_, z5y, hc.1, hc.2, oLen, oGt, slice, optN, opt, oNeg, oSl, cutZ, sIx, b2, b3, b4, z7x, zhs, oAdd, zc7]
   rw [if_pos (b1 ▸ trivial)]
   simp! [sp9]
 ·refine ⟨es, i1, by omega, ?_⟩
  rw [e0]
  unfold ze0
  rw [z30 s1]
  by_cases h1 : r' = 0
  ·have h2 : ¬ 2 < (es.length : Int) := fun z => hc ⟨h1, z⟩
   simp! [sp9, e2_, e3_, z5y, h1, oLen, oGt]
   rw [if_neg h2]
   simp! [sp9]
  ·simp! [sp9, e2_, e3_, z5y, h1]
end Co
end
section
namespace Co
open D PySem
def shW (k : Int) (w : Int × Str × Option Str) : Int × Str × Option Str := (k + w.1, w.2)
def sh (k : Int) (pre : List (Int × Str × Option Str)) (c : Cs) : Cs := { c with past := k + c.past, told := pre ++ c.told.map (shW k) }
section
variable (k : Int) (pre : List (Int × Str × Option Str)) (p : Pl)
end
theorem za8 (a n : Int) : less a n = max (a - n) 0 := by
 unfold less
 split <;> omega
theorem z67 (p : Pl) (z : Str) (c : Cs) : (alarm p z c).mode = c.mode /\ (alarm p z c).left = c.left /\ (alarm p z c).came = c.came /\ (alarm p z c).lines = c.lines /\ (alarm p z c).shunts = c.shunts /\ (alarm p z c).tries = c.tries /\ (alarm p z c).locked = c.locked /\ (alarm p z c).used = c.used /\ (alarm p z c).past = c.past /\ (alarm p z c).siren = p.loud := by
 unfold alarm
 split <;> simp [tell, beLoud]
theorem z6z (p : Pl) : ∀ (zs : List Str) (c : Cs), (alarms p zs c).mode = c.mode /\ (alarms p zs c).left = c.left /\ (alarms p zs c).came = c.came /\ (alarms p zs c).lines = c.lines /\ (alarms p zs c).shunts = c.shunts /\ (alarms p zs c).tries = c.tries /\ (alarms p zs c).locked = c.locked /\ (alarms p zs c).used = c.used /\ (alarms p zs c).past = c.past /\ ((alarms p zs c).siren = p.loud \/ (alarms p zs c).siren = c.siren)
 | [], c => by simp [alarms]
 | z :: zs, c => by
  have h1 := z67 p z c
  have h2 := z6z p zs (alarm p z c)
  have e : alarms p (z :: zs) c = alarms p zs (alarm p z c) := rfl
  rw [e]
  obtain ⟨a1, a2, a3, a4, a5, a6, a7, a8, a9, a10⟩ := h1
  obtain ⟨b1, b2, b3, b4, b5, b6, b7, b8, b9, b10⟩ := h2
  refine ⟨b1.trans a1, b2.trans a2, b3.trans a3, b4.trans a4, b5.trans a5, b6.trans a6, b7.trans a7, b8.trans a8, b9.trans a9, ?_⟩
  rcases b10 with q | q
  ·exact .inl q
  ·exact .inl (q.trans a10)
theorem zdv (p : Pl) (c : Cs) : (endTime p c).mode = "on" /\ (c.left = 0 -> (endTime p c).left = 0) /\ (endTime p c).lines = c.lines /\ (endTime p c).shunts = c.shunts /\ (endTime p c).tries = c.tries /\ (endTime p c).locked = c.locked /\ (endTime p c).used = c.used /\ (endTime p c).past = c.past /\ ((endTime p c).siren = p.loud \/ (endTime p c).siren = c.siren) := by
 unfold endTime
 split
 ·obtain ⟨a1, a2, a3, a4, a5, a6, a7, a8, a9, a10⟩ := z6z p (bare p ["inner", "way"] (tell "on" none { c with mode := "on", left := 0 })) (tell "on" none { c with mode := "on", left := 0 })
  exact ⟨a1, fun _ => a2, a4, a5, a6, a7, a8, a9, a10⟩
 ·obtain ⟨a1, a2, a3, a4, a5, a6, a7, a8, a9, a10⟩ := z67 p (c.came.getD "") { c with mode := "on", came := none }
  exact ⟨a1, fun h => a2.trans h, a4, a5, a6, a7, a8, a9, .inl a10⟩
def ze7 (c : Cs) : Prop := c.mode = "leaving" \/ c.mode = "coming"
theorem z6o {c : Cs} (h : c.mode = "on") : ¬ (c.mode = "leaving" \/ c.mode = "coming") := by
 rw [h]
 simp [z9q, z4w]
structure Iv (c : Cs) : Prop where
 md : c.mode = "off" \/ c.mode = "leaving" \/ c.mode = "on" \/ c.mode = "coming"
 t1 : ze7 c -> 1 <= c.left /\ c.left <= 60
 t0 : ¬ ze7 c -> c.left = 0
 si : 0 <= c.siren /\ c.siren <= 300
 lo : 0 <= c.locked /\ c.locked <= 90
 tr : 0 <= c.tries /\ c.tries <= 2
theorem Iv.begun (p : Pl) : Iv (z2v p) := ⟨.inl rfl, fun h => by rcases h with h | h; exact absurd h z60; exact absurd h z2t, fun _ => rfl, by simp [z2v], by simp [z2v], by simp [z2v]⟩
theorem DP.loud {p : Pl} (h : DP p) : 1 <= p.loud /\ p.loud <= 300 := by
 have := h.to
 simp at this
 omega
theorem DP.leave {p : Pl} (h : DP p) : 0 <= p.leave /\ p.leave <= 60 := by
 have := h.tl
 simp at this
 omega
theorem DP.come {p : Pl} (h : DP p) : 0 <= p.come /\ p.come <= 60 := by
 have := h.tc
 simp at this
 omega
theorem Iv.tell {c : Cs} (h : Iv c) (w : Str) (n : Option Str) : Iv (Co.tell w n c) := ⟨h.md, h.t1, h.t0, h.si, h.lo, h.tr⟩
theorem Iv.alarm {p : Pl} (hp : DP p) {c : Cs} (h : Iv c) (z : Str) : Iv (Co.alarm p z c) := by
 obtain ⟨a1, a2, a3, a4, a5, a6, a7, a8, a9, a10⟩ := z67 p z c
 have := hp.loud
 refine ⟨by rw [a1]; exact h.md, ?_, ?_, by rw [a10]; omega, by rw [a7]; exact h.lo, by rw [a6]; exact h.tr⟩
 ·unfold ze7
  rw [a1, a2]
  exact h.t1
 ·unfold ze7
  rw [a1, a2]
  exact h.t0
theorem Iv.alarms {p : Pl} (hp : DP p) : ∀ {zs : List Str} {c : Cs}, Iv c -> Iv (Co.alarms p zs c)
 | [], _, h => h
 | z :: zs, c, h => Iv.alarms hp (zs := zs) (h.alarm hp z)
theorem Iv.comeIn {p : Pl} (hp : DP p) {c : Cs} (h : Iv c) (z k : Str) : Iv (Co.comeIn p z k c) := by
 have := hp.come
 unfold Co.comeIn
 split
 ·exact h.alarm hp z
 next q =>
  have : ¬ p.come <= 0 := fun z => q (.inr z)
  exact ⟨.inr (.inr (.inr rfl)), fun _ => by show 1 <= p.come /\ p.come <= 60; omega, fun t => absurd (.inr rfl) t, h.si, h.lo, h.tr⟩
theorem Iv.disturb {p : Pl} (hp : DP p) {c : Cs} (h : Iv c) (z w : Str) : Iv (Co.disturb p z w c) := by
 unfold Co.disturb
 repeat' split
 all_goals first | exact h.alarm hp z | exact h.tell _ _ | exact h.comeIn hp z _ | exact h
theorem Iv.line {p : Pl} (hp : DP p) {c : Cs} (h : Iv c) (z w : Str) : Iv (Co.line p z w c) := by
 have h' : Iv { c with lines := setL c.lines z w } := ⟨h.md, h.t1, h.t0, h.si, h.lo, h.tr⟩
 unfold Co.line
 repeat' split
 all_goals first | exact h | exact h' | exact h'.tell _ _ | exact h'.disturb hp z w
theorem zdp {x n m : Int} (hn : 0 <= n) (h : 0 <= x /\ x <= m) : 0 <= less x n /\ less x n <= m := by
 rw [za8]
 omega
theorem Iv.endLeaving {p : Pl} (hp : DP p) {c : Cs} (h : 0 <= c.siren /\ c.siren <= 300) (h2 : 0 <= c.locked /\ c.locked <= 90) (h3 : 0 <= c.tries /\ c.tries <= 2) : Iv (Co.endLeaving p c) :=
 Iv.alarms hp (Iv.tell (c := { c with mode := "on", left := 0 }) ⟨.inr (.inr (.inl rfl)), fun t => absurd t (z6o rfl), fun _ => rfl, h, h2, h3⟩ _ _)
theorem Iv.endComing {p : Pl} (hp : DP p) {c : Cs} (h0 : c.left = 0) (h : 0 <= c.siren /\ c.siren <= 300) (h2 : 0 <= c.locked /\ c.locked <= 90) (h3 : 0 <= c.tries /\ c.tries <= 2) : Iv (Co.endComing p c) :=
 Iv.alarm hp (c := { c with mode := "on", came := none }) ⟨.inr (.inr (.inl rfl)), fun t => absurd t (z6o rfl), fun _ => h0, h, h2, h3⟩ _
theorem Iv.cd {c : Cs} (h : Iv c) {n : Int} (hn : 0 <= n) (ht : ze7 c -> n < c.left) : Iv (z21 n c) := by
 refine ⟨h.md, fun t => ?_, fun t => ?_, zdp hn h.si, zdp hn h.lo, h.tr⟩
 ·have := h.t1 t
  have := ht t
  show 1 <= less c.left n /\ less c.left n <= 60
  rw [za8]
  omega
 ·have := h.t0 t
  show less c.left n = 0
  rw [za8]
  omega
theorem Iv.ticks {p : Pl} (hp : DP p) {c : Cs} (h : Iv c) (n : Int) : Iv (Co.ticks p n c) := by
 unfold Co.ticks
 split
 ·exact h
 ·split
  next q =>
   obtain ⟨q1, q2⟩ := q
   have hl := h.t1 q1
   have hl0 : (z21 c.left c).left = 0 := by
    show less c.left c.left = 0
    rw [za8]
    omega
   have e : Iv (Co.endTime p (z21 c.left c)) := by
    have s := zdp (n := c.left) (by omega) h.si
    have l := zdp (n := c.left) (by omega) h.lo
    unfold Co.endTime
    split
    ·exact Iv.endLeaving hp s l h.tr
    ·exact Iv.endComing hp hl0 s l h.tr
   exact e.cd (by omega) fun t => absurd t (z6o (zdv p _).1)
  next q =>
   refine h.cd (by omega) fun t => ?_
   have : ¬ c.left <= n := fun z => q ⟨t, z⟩
   omega
theorem Iv.takeWrong {p : Pl} (hp : DP p) {c : Cs} (h : Iv c) : Iv (Co.takeWrong p c) := by
 have := hp.loud
 have := h.tr
 unfold Co.takeWrong
 split
 ·exact ⟨h.md, h.t1, h.t0, by show 0 <= p.loud /\ p.loud <= 300; omega, by show (0 : Int) <= 90 /\ (90 : Int) <= 90; omega, by show (0 : Int) <= 0 /\ (0 : Int) <= 2; omega⟩
 ·exact ⟨h.md, h.t1, h.t0, h.si, h.lo, by show 0 <= c.tries + 1 /\ c.tries + 1 <= 2; omega⟩
theorem Iv.doSet {p : Pl} (hp : DP p) {c : Cs} (h : Iv c) (w : Str) : Iv (Co.doSet p w c) := by
 have := hp.leave
 show Iv (if p.leave <= 0 then Co.endLeaving p (Co.tell "set" (some w) { c with alarms := [], siren := 0, mode := "leaving", left := p.leave }) else Co.tell "set" (some w) { c with alarms := [], siren := 0, mode := "leaving", left := p.leave })
 split
 ·exact Iv.endLeaving hp (by show (0 : Int) <= 0 /\ (0 : Int) <= 300; omega) h.lo h.tr
 ·exact ⟨.inr (.inl rfl), fun _ => by show 1 <= p.leave /\ p.leave <= 60; omega, fun t => absurd (.inl rfl) t, by show (0 : Int) <= 0 /\ (0 : Int) <= 300; omega, h.lo, h.tr⟩
theorem Iv.doDeed {p : Pl} (hp : DP p) {c : Cs} (h : Iv c) (w d : Str) (z : Option Str) : Iv (Co.doDeed p w d z c) := by
 unfold Co.doDeed
 split
 ·exact h.doSet hp w
 ·split
  ·exact ⟨.inl rfl, fun t => (by rcases t with t | t; exact absurd t z60; exact absurd t z2t), fun _ => rfl, by show (0 : Int) <= 0 /\ (0 : Int) <= 300; omega, h.lo, h.tr⟩
  ·split
   ·exact ⟨h.md, h.t1, h.t0, h.si, h.lo, h.tr⟩
   ·exact ⟨h.md, h.t1, h.t0, h.si, h.lo, h.tr⟩
theorem Iv.code {p : Pl} (hp : DP p) {c : Cs} (h : Iv c) (f d : Str) (z : Option Str) : Iv (Co.code p f d z c) := by
 unfold Co.code
 split
 ·exact h.tell _ _
 ·split
  ·exact h.takeWrong hp
  ·split
   ·exact h.takeWrong hp
   ·have h0 : Iv { c with tries := 0 } := ⟨h.md, h.t1, h.t0, h.si, h.lo, by show (0 : Int) <= 0 /\ (0 : Int) <= 2; omega⟩
    unfold Co.takeRight
    split
    ·refine Iv.doDeed hp ?_ _ _ _
     exact ⟨h0.md, h0.t1, h0.t0, h0.si, h0.lo, h0.tr⟩
    ·exact h0.tell _ _
theorem Iv.happen {p : Pl} (hp : DP p) {c : Cs} (h : Iv c) (e : Et) : Iv (Co.happen p c e) := by
 cases e with
 | line z w => exact h.line hp z w
 | code f d z => exact h.code hp f d z
 | ticks n => exact h.ticks hp n
theorem Iv.run {p : Pl} (hp : DP p) : ∀ {es : List Et} {c : Cs}, Iv c -> Iv (Co.run p c es)
 | [], _, h => h
 | e :: es, c, h => Iv.run hp (es := es) (h.happen hp e)
end Co
end
section
namespace Co
open D PySem
def okN (d : Nat) (t : T) : Prop := t.canLay0 = true /\ t.depth <= d
theorem okN.okT {d : Nat} {t : T} (h : okN d t) (hd : d <= 60 := by decide) : okT t = true := by
 unfold D.okT
 rw [h.1, decide_eq_true (y1u h.2 hd)]
 rfl
theorem zdj {d : Nat} : ∀ {ts : List T}, (∀ t ∈ ts, okN d t) -> y1j ts = true /\ y1h ts <= d
 | [], _ => by simp [y1j, y1h]
 | t :: ts, h => by
  obtain ⟨h1, h2⟩ := zdj fun x hx => h x (y05 _ hx)
  obtain ⟨h3, h4⟩ := h t y0f
  constructor
  ·rw [y1j, h3, h1]
   rfl
  ·rw [y1h]
   omega
theorem zku {d : Nat} {ts : List T} (h : ∀ t ∈ ts, okN d t) : okN (d + 1) (.tuple ts) := by
 obtain ⟨h1, h2⟩ := zdj h
 constructor
 ·rw [PyData.canLay0]; exact h1
 ·rw [y2d]; omega
theorem zdi {d : Nat} {ts : List T} (h : ∀ t ∈ ts, okN d t) : okN (d + 1) (.list ts) := by
 obtain ⟨h1, h2⟩ := zdj h
 constructor
 ·rw [PyData.canLay0]; exact h1
 ·rw [y2d]; omega
theorem zpq (d : Nat) (n : Int) : okN d (.int n) := ⟨rfl, by rw [y2d]; omega⟩
theorem zmy (d : Nat) : okN d .none := ⟨rfl, by rw [y2d]; omega⟩
theorem zmz (d : Nat) (b : Bool) : okN d (.bool b) := ⟨rfl, by rw [y2d]; omega⟩
theorem zgj (d : Nat) {x : Str} (h : okS x) : okN d (.str x) := ⟨h, by rw [y2d]; omega⟩
theorem zrq (d : Nat) {x : Option Str} (h : ∀ z, x = some z -> okS z) : okN d (oS x) := by
 cases x with
 | none => exact zmy d
 | some z => exact zgj d (h z rfl)
theorem zdk {d : Nat} {t : T} (h : okN d t) (hd : d <= 60 := by decide) : oNe t t = some (.bool false) := by
 unfold oNe
 rw [h.okT hd, PySem.SeqAt.eqv_refl t h.1]
 rfl
theorem zhv {d : Nat} {t : T} (h : okN d t) (hd : d <= 60 := by decide) : oEq t t = some (.bool true) := by
 unfold oEq
 rw [h.okT hd, PySem.SeqAt.eqv_refl t h.1]
 rfl
def Tw (c : Cs) : Prop := ∀ w ∈ c.told, okS w.2.1 /\ ∀ n, w.2.2 = some n -> okS n
theorem Tw.tell {c : Cs} (h : Tw c) {w : Str} {n : Option Str} (hw : okS w) (hn : ∀ x, n = some x -> okS x) : Tw (Co.tell w n c) := by
 intro x hx
 rcases y13.mp hx with q | q
 ·exact h x q
 ·simp at q
  subst q
  exact ⟨hw, hn⟩
theorem Tw.alarm {p : Pl} {c : Cs} (h : Tw c) {z : Str} (hz : okS z) : Tw (Co.alarm p z c) := by
 unfold Co.alarm
 split
 ·exact h
 ·exact Tw.tell (c := { beLoud p c with alarms := c.alarms ++ [z] }) h (z02 "alarm") fun x e => Option.some.inj e ▸ hz
theorem Tw.alarms {p : Pl} : ∀ {zs : List Str} {c : Cs}, Tw c -> (∀ z ∈ zs, okS z) -> Tw (Co.alarms p zs c)
 | [], _, h, _ => h
 | z :: zs, c, h, hz => Tw.alarms (zs := zs) (h.alarm (hz z y0f)) fun y hy => hz y (y05 _ hy)
theorem Tw.comeIn {p : Pl} {c : Cs} (h : Tw c) {z k : Str} (hz : okS z) : Tw (Co.comeIn p z k c) := by
 unfold Co.comeIn
 split
 ·exact h.alarm hz
 ·exact Tw.tell (c := { c with mode := "coming", left := p.come, came := some z }) h (z02 "coming") fun x e => Option.some.inj e ▸ hz
theorem Tw.disturb {p : Pl} {c : Cs} (h : Tw c) {z w : Str} (hz : okS z) : Tw (Co.disturb p z w c) := by
 unfold Co.disturb
 repeat' split
 all_goals first | exact h.alarm hz | exact h.tell (z02 "fault") fun x e => Option.some.inj e ▸ hz | exact h.comeIn hz | exact h
theorem Tw.line {p : Pl} {c : Cs} (h : Tw c) {z w : Str} (hz : okS z) : Tw (Co.line p z w c) := by
 have h' : Tw { c with lines := setL c.lines z w } := h
 unfold Co.line
 repeat' split
 all_goals first | exact h | exact h' | exact h'.tell (z02 "mended") fun x e => Option.some.inj e ▸ hz | exact h'.disturb hz
theorem Tw.endLeaving {p : Pl} {c : Cs} (h : Tw c) (hw : Wf p c) : Tw (Co.endLeaving p c) :=
 Tw.alarms (Tw.tell (c := { c with mode := "on", left := 0 }) h (z02 "on") fun x e => (nomatch e)) fun z hz => hw.okz (z8u hz)
theorem Tw.endTime {p : Pl} {c : Cs} (h : Tw c) (hw : Wf p c) (hm : ze7 c) : Tw (Co.endTime p c) := by
 unfold Co.endTime
 split
 ·exact h.endLeaving hw
 next q =>
  obtain ⟨z, hz⟩ := Option.ne_none_iff_exists'.mp (hw.cm (hm.resolve_left q))
  unfold Co.endComing
  rw [hz]
  exact Tw.alarm (c := { c with mode := "on", came := none }) h (hw.ca z hz).1
theorem Tw.ticks {p : Pl} {c : Cs} (h : Tw c) (hw : Wf p c) (n : Int) : Tw (Co.ticks p n c) := by
 unfold Co.ticks
 split
 ·exact h
 ·split
  next q => exact Tw.endTime (c := z21 c.left c) h (hw.cd _) q.1
  ·exact h
theorem Tw.takeWrong {p : Pl} {c : Cs} (h : Tw c) : Tw (Co.takeWrong p c) := by
 have h1 : Tw (wrong1 c) := Tw.tell h (z02 "wrong") fun x e => (nomatch e)
 unfold Co.takeWrong
 split
 ·exact Tw.tell (c := beLoud p { wrong1 c with tries := 0, locked := 90 }) h1 (z02 "attack") fun x e => (nomatch e)
 ·exact h1
theorem zjn {p : Pl} {c : Cs} (hw : Wf p c) {k : Cd} (hk : k ∈ p.codes) {d : Str} {z : Option Str} {x : Str × Str} (h : against p k d z c = some x) : okS x.1 /\ okS x.2 := by
 have hwho := (hw.cn k hk).2.1
 unfold against at h
 by_cases h1 : (if d = "free" then ("shunt" : Str) else d) ∈ k.rights
 ·rw [if_neg (fun q => q h1)] at h
  split at h
  ·cases h
   exact ⟨z02 "no", hwho⟩
  ·split at h
   next q =>
    cases h
    refine ⟨z02 "open", ?_⟩
    have hb := q.2
    cases e : bare p ["day", "once"] c with
    | nil => exact absurd e hb
    | cons b bs =>
     have : b ∈ bare p ["day", "once"] c := by rw [e]; simp
     simpa using hw.okz (z8u this)
   ·cases h
 ·rw [if_pos h1] at h
  cases h
  exact ⟨z02 "denied", hwho⟩
theorem Tw.doDeed {p : Pl} {c : Cs} (h : Tw c) (hw : Wf p c) {w d : Str} {z : Option Str} (how : okS w) (hz : okD p d z c) : Tw (Co.doDeed p w d z c) := by
 rcases hz with rfl | rfl | ⟨rfl, x, rfl, hx⟩ | ⟨rfl, x, rfl, hx⟩
 ·simp only [Co.doDeed, if_true]
  have h' : Tw (Co.tell "set" (some w) { c with alarms := [], siren := 0, mode := "leaving", left := p.leave }) := Tw.tell (c := { c with alarms := [], siren := 0, mode := "leaving", left := p.leave }) h (z02 "set") fun x e => Option.some.inj e ▸ how
  show Tw (if p.leave <= 0 then Co.endLeaving p (Co.tell "set" (some w) { c with alarms := [], siren := 0, mode := "leaving", left := p.leave }) else Co.tell "set" (some w) { c with alarms := [], siren := 0, mode := "leaving", left := p.leave })
  split
  ·exact h'.endLeaving ((hw.setAl p.leave).tell _ _)
  ·exact h'
 ·simp only [Co.doDeed, if_neg z4v, if_true]
  exact Tw.tell (c := { c with mode := "off", left := 0, siren := 0, came := none, shunts := [] }) h (z02 "unset") fun x e => Option.some.inj e ▸ how
 ·simp only [Co.doDeed, if_neg z5z, if_neg z3o, if_true]
  exact Tw.tell (c := { c with shunts := z75 (c.shunts ++ [x]) }) h (z02 "shunt") fun y e => Option.some.inj e ▸ hw.okz hx
 ·simp only [Co.doDeed, if_neg z72, if_neg z45, if_neg z46]
  exact Tw.tell (c := { c with shunts := c.shunts.erase x }) h (z02 "free") fun y e => Option.some.inj e ▸ hw.oksh x hx
theorem Tw.happen {p : Pl} {c : Cs} (h : Tw c) (hw : Wf p c) {e : Et} (he : okE p e) : Tw (Co.happen p c e) := by
 cases e with
 | line z w => exact h.line (hw.okz he.1)
 | ticks n => exact h.ticks hw n
 | code f d z =>
  show Tw (Co.code p f d z c)
  unfold Co.code
  split
  ·exact h.tell (z02 "locked") fun x e => (nomatch e)
  ·split
   ·exact h.takeWrong
   next k ek =>
    have hk := z9g ek
    split
    ·exact h.takeWrong
    ·have w0 := hw.tri 0
     have h0 : Tw { c with tries := 0 } := h
     unfold Co.takeRight
     split
     next ea => exact Tw.doDeed (c := { c with tries := 0, used := addU c.used k.fig }) h (w0.add k.fig) (hw.cn k hk).2.1 (zhu he.2.1 he.2.2 ea)
     next ea =>
      have := zjn w0 hk ea
      exact h0.tell this.1 fun x e => Option.some.inj e ▸ this.2
theorem Tw.run {p : Pl} : ∀ {es : List Et} {c : Cs}, Tw c -> Wf p c -> (∀ e ∈ es, okE p e) -> Tw (Co.run p c es)
 | [], _, h, _, _ => h
 | e :: es, c, h, hw, he => Tw.run (es := es) (h.happen hw (he e y0f)) (hw.happen (he e y0f)) fun y hy => he y (y05 _ hy)
theorem Tw.fresh (c : Cs) : Tw (Co.fresh c) := fun w hw => by cases hw
def zc2 (w : Int × Str × Option Str) : T := .tuple [.str w.2.1, oS w.2.2]
end Co
end
section
namespace Co
open D PySem
theorem z5f {i : Nat} {f : Fe} {b : Fs} {ε : Ev} {t : T} {r : Option Out} (h : f ε = some t) (h2 : b (ε.set i (some (.imm t))) = r) : seq (asg i f) b ε = r := by
 rw [z30 (ε' := ε.set i (some (.imm t))), h2]
 unfold asg
 rw [h]
 rfl
theorem z28 {c : Ft} {a b : Fs} {ε : Ev} {r : Option Out} (h : c ε = some false) (h2 : b ε = r) : seq (iff c a skip) b ε = r := by
 rw [z30 (ε' := ε), h2]
 unfold iff
 rw [h]
 rfl
theorem z5u {a b : Fs} {ε ε' : Ev} {r : Option Out} (h : a ε = some (.nx ε')) (h2 : b ε' = r) : seq a b ε = r := by rw [z30 h, h2]
theorem denied {p : Pl} {c : Cs} {k : Cd} {d : Str} (hd : d = "set" \/ d = "unset") (hr : d ∉ k.rights) : takeRight p k d none c = tell "denied" (some k.who) c := by
 have : against p k d none c = some (("denied" : Str), k.who) := by
  rcases hd with rfl | rfl <;> simp [against, z9b, z6p, hr]
 unfold takeRight
 rw [this]
theorem zht (d : Nat) {w : Str} {n : Option Str} (hw : okS w) (hn : ∀ x, n = some x -> okS x) : okN (d + 1) (.tuple [.str w, oS n]) := zku fun x hx => by
 simp only [y09, List.not_mem_nil, or_false] at hx
 rcases hx with rfl | rfl
 ·exact zgj _ hw
 ·exact zrq _ hn
end Co
end
section
namespace Co
open D PySem
end Co
end
section
namespace Co
open D
open PySem hiding run fresh code
local instance : Tbl := ⟨[], fun _ => [], fun _ => none⟩
structure Rn where
 z : Str -> Str
 f : Str -> Str
structure RnOk (p : Pl) (r : Rn) : Prop where
 zi : ∀ a ∈ p.zones.map (·.1), ∀ b ∈ p.zones.map (·.1), r.z a = r.z b -> a = b
 zl : ∀ a ∈ p.zones.map (·.1), ∀ b ∈ p.zones.map (·.1), z4i (r.z a) (r.z b) = z4i a b
 fi : ∀ a b, r.f a = r.f b -> a = b
 wh : ∀ k ∈ p.codes, r.z k.who = k.who
section
variable {p : Pl} {r : Rn} (hr : RnOk p r)
include hr
end
end Co
end
section
namespace Co
open D
open PySem hiding run fresh code
def loud (w : Int × Str × Option Str) : Bool := decide (w.2.1 ∈ (["alarm", "attack"] : List Str))
end Co
end
section
namespace Co
open D
open PySem hiding run fresh code
def Cn (c : Cs) : Prop := c.mode ≠ "coming" -> c.came = none
theorem Cn.alarm {c : Cs} (p : Pl) (z : Str) (h : Cn c) : Cn (Co.alarm p z c) := by
 obtain ⟨a1, a2, a3, _⟩ := z67 p z c
 unfold Cn
 rw [a1, a3]
 exact h
theorem Cn.none {c : Cs} (h : c.came = none) : Cn c := fun _ => h
theorem Cn.comeIn {c : Cs} (p : Pl) (z k : Str) (h : Cn c) : Cn (Co.comeIn p z k c) := by
 unfold Co.comeIn
 split
 ·exact h.alarm p z
 ·exact fun q => absurd rfl q
theorem Cn.disturb {c : Cs} (p : Pl) (z w : Str) (h : Cn c) : Cn (Co.disturb p z w c) := by
 unfold Co.disturb
 repeat' split
 all_goals first | exact h.alarm p z | exact h | exact h.comeIn p z _
theorem Cn.line {c : Cs} (p : Pl) (z w : Str) (h : Cn c) : Cn (Co.line p z w c) := by
 have h' : Cn { c with lines := setL c.lines z w } := h
 unfold Co.line
 repeat' split
 all_goals first | exact h | exact h' | exact h'.disturb p z w
theorem z6t (p : Pl) (c : Cs) : (endLeaving p c).came = c.came := (z6z p _ _).2.2.1
theorem Cn.endTime {c : Cs} (p : Pl) (h : Cn c) : Cn (Co.endTime p c) := by
 unfold Co.endTime
 split
 next q => exact .none ((z6t p c).trans (h (by rw [q]; exact z36)))
 ·exact Cn.alarm p _ (.none rfl)
theorem Cn.cd {c : Cs} (n : Int) (h : Cn c) : Cn (z21 n c) := h
theorem Cn.ticks {c : Cs} (p : Pl) (n : Int) (h : Cn c) : Cn (Co.ticks p n c) := by
 unfold Co.ticks
 split
 ·exact h
 ·split
  ·exact ((h.cd _).endTime p).cd _
  ·exact h.cd _
theorem Cn.takeWrong {c : Cs} (p : Pl) (h : Cn c) : Cn (Co.takeWrong p c) := by
 unfold Co.takeWrong
 split <;> exact h
theorem zj8 (p : Pl) (w : Str) (c : Cs) : (doSet p w c).came = c.came := by
 show (if p.leave <= 0 then endLeaving p (tell "set" (some w) { c with alarms := [], siren := 0, mode := "leaving", left := p.leave }) else tell "set" (some w) { c with alarms := [], siren := 0, mode := "leaving", left := p.leave } : Cs).came = _
 split
 ·exact z6t p _
 ·rfl
theorem zbs {p : Pl} {c : Cs} {k : Cd} {z : Option Str} (ha : against p k "set" z c = none) : c.mode = "off" := by
 by_cases hm : c.mode = "off"
 ·exact hm
 ·have hu : z2h p "set" z c = true := by
   unfold z2h
   rw [if_neg zau, if_pos hm]
  unfold against at ha
  rw [hu] at ha
  by_cases hr : (if ("set" : Str) = "free" then ("shunt" : Str) else "set") ∈ k.rights
  ·rw [if_neg (fun q => q hr), if_pos rfl] at ha
   cases ha
  ·rw [if_pos hr] at ha
   cases ha
theorem Cn.takeRight {c : Cs} (p : Pl) (k : Cd) (d : Str) (z : Option Str) (h : Cn c) : Cn (Co.takeRight p k d z c) := by
 unfold Co.takeRight
 split
 next e =>
  unfold doDeed
  split
  next hd =>
   subst hd
   exact .none ((zj8 p _ _).trans (h (by rw [zbs e]; exact z2t)))
  ·split
   ·exact .none rfl
   ·split <;> exact h
 ·exact h
theorem Cn.code {c : Cs} (p : Pl) (f d : Str) (z : Option Str) (h : Cn c) : Cn (Co.code p f d z c) := by
 unfold Co.code
 split
 ·exact h
 ·split
  ·exact h.takeWrong p
  ·split
   ·exact h.takeWrong p
   ·exact Cn.takeRight (c := { c with tries := 0 }) p _ d z h
theorem Cn.happen {c : Cs} (p : Pl) (e : Et) (h : Cn c) : Cn (Co.happen p c e) := by
 cases e with
 | line z w => exact h.line p z w
 | code f d z => exact h.code p f d z
 | ticks n => exact h.ticks p n
theorem Cn.run (p : Pl) : ∀ (es : List Et) {c : Cs}, Cn c -> Cn (Co.run p c es)
 | [], _, h => h
 | e :: es, c, h => Cn.run p es (h.happen p e)
theorem Cn.begun (p : Pl) : Cn (z2v p) := .none rfl
end Co
end
section
namespace K16
open D Co
open PySem hiding run fresh code
local instance : Tbl := ⟨[], fun _ => [], fun _ => none⟩
abbrev Wd := Int × Str × Option Str
def md (m : Str) : Str := if m = "coming" then "on" else m
def stp (zs ppl : List Str) (s : List Str × Str) (w : Wd) : Option (List Str × Str) :=
 if w.2.1 = "set" then (if s.2 = "off" /\ w.2.2.any (fun x => decide (x ∈ ppl)) = true then some ([], "leaving") else none)
 else if w.2.1 = "unset" then some (s.1, "off")
 else if w.2.1 = "on" then (if s.2 = "leaving" then some (s.1, "on") else none)
 else if w.2.1 = "coming" then (if s.2 ≠ "off" then some s else none)
 else if w.2.1 = "fault" then (if s.2 = "off" then some s else none)
 else if w.2.1 = "alarm" then (match w.2.2 with | some z => if z ∉ s.1 /\ z ∈ zs then some (s.1 ++ [z], s.2) else none | none => none)
 else some s
def sim (zs ppl : List Str) : List Str × Str -> List Wd -> Option (List Str × Str)
 | s, [] => some s
 | s, w :: ws => (stp zs ppl s w).bind fun s' => sim zs ppl s' ws
theorem zjz (zs ppl : List Str) : ∀ (ws us : List Wd) (s : List Str × Str), sim zs ppl s (ws ++ us) = (sim zs ppl s ws).bind fun s' => sim zs ppl s' us
 | [], us, s => rfl
 | w :: ws, us, s => by
  simp only [List.cons_append, sim]
  cases stp zs ppl s w with
  | none => rfl
  | some s' => exact zjz zs ppl ws us s'
structure Lg (p : Pl) (c : Cs) : Prop where
 sm : sim (p.zones.map (·.1)) (p.codes.map (·.who)) ([], "off") c.told = some (c.alarms, md c.mode)
 tm : (c.told.map (·.1)).Pairwise (· <= ·)
 tp : ∀ w ∈ c.told, w.1 <= c.past
 sh : ∀ z ∈ c.shunts, ∃ w ∈ c.told, w.2 = (("shunt" : Str), some z)
theorem Lg.zero {p : Pl} {c c' : Cs} (h : Lg p c) (h1 : c'.told = c.told) (h2 : c.past <= c'.past) (h3 : c'.alarms = c.alarms) (h4 : md c'.mode = md c.mode) (h5 : ∀ z ∈ c'.shunts, z ∈ c.shunts) : Lg p c' := by
 refine ⟨by rw [h1, h3, h4]; exact h.sm, by rw [h1]; exact h.tm, fun w hw => ?_, fun z hz => ?_⟩
 ·rw [h1] at hw
  have := h.tp w hw
  omega
 ·rw [h1]
  exact h.sh z (h5 z hz)
theorem Lg.one {p : Pl} {c c' : Cs} (h : Lg p c) {w : Str} {n : Option Str} (h1 : c'.told = c.told ++ [(c.past, w, n)]) (h2 : c'.past = c.past) (h3 : stp (p.zones.map (·.1)) (p.codes.map (·.who)) (c.alarms, md c.mode) (c.past, w, n) = some (c'.alarms, md c'.mode))
  (h5 : ∀ z ∈ c'.shunts, z ∈ c.shunts \/ (w = "shunt" /\ n = some z)) : Lg p c' := by
 refine ⟨?_, ?_, fun x hx => ?_, fun z hz => ?_⟩
 ·rw [h1, zjz, h.sm]
  simp only [y0q, sim, h3]
 ·rw [h1, List.map_append, List.pairwise_append]
  refine ⟨h.tm, by simp, fun a ha b hb => ?_⟩
  obtain ⟨x, hx, rfl⟩ := y0n.mp ha
  simp at hb
  subst hb
  exact h.tp x hx
 ·rw [h1] at hx
  rw [h2]
  rcases y13.mp hx with q | q
  ·exact h.tp x q
  ·simp at q
   subst q
   exact Int.le_refl _
 ·rw [h1]
  rcases h5 z hz with q | ⟨rfl, rfl⟩
  ·obtain ⟨x, hx, e⟩ := h.sh z q
   exact ⟨x, List.mem_append_left _ hx, e⟩
  ·exact ⟨(c.past, "shunt", some z), by simp, rfl⟩
def idle : List Str := ["mended", "locked", "wrong", "attack", "denied", "no", "open", "shunt", "free"]
theorem zd6 (zs ppl : List Str) (s : List Str × Str) {t : Int} {w : Str} {n : Option Str} (hw : w ∈ idle) : stp zs ppl s (t, w, n) = some s := by
 have key : ∀ w ∈ idle, ¬ w = "set" /\ ¬ w = "unset" /\ ¬ w = "on" /\ ¬ w = "coming" /\ ¬ w = "fault" /\ ¬ w = "alarm" := by decide +kernel
 obtain ⟨a1, a2, a3, a4, a5, a6⟩ := key w hw
 simp [stp, a1, a2, a3, a4, a5, a6]
theorem Lg.tell {p : Pl} {c : Cs} (h : Lg p c) {w : Str} (n : Option Str) (hw : w ∈ idle) : Lg p (Co.tell w n c) :=
 h.one rfl rfl (zd6 _ _ _ hw) fun z hz => .inl hz
theorem zop : ¬ ("alarm" : Str) = "set" /\ ¬ ("alarm" : Str) = "unset" /\ ¬ ("alarm" : Str) = "on" /\ ¬ ("alarm" : Str) = "coming" /\ ¬ ("alarm" : Str) = "fault" := by decide +kernel
theorem zm9 : ¬ ("coming" : Str) = "set" /\ ¬ ("coming" : Str) = "unset" /\ ¬ ("coming" : Str) = "on" := by decide +kernel
theorem zoo : ¬ ("fault" : Str) = "set" /\ ¬ ("fault" : Str) = "unset" /\ ¬ ("fault" : Str) = "on" /\ ¬ ("fault" : Str) = "coming" := by decide +kernel
theorem w_on : ¬ ("on" : Str) = "set" /\ ¬ ("on" : Str) = "unset" := by decide +kernel
theorem zco : md "off" = "off" := if_neg z2t
theorem zpt : md "on" = "on" := if_neg z4w
theorem zcp : md "leaving" = "leaving" := if_neg z36
theorem zf4 : md "coming" = "on" := if_pos rfl
theorem Lg.alarm {p : Pl} {c : Cs} (h : Lg p c) {z : Str} (hz : z ∈ p.zones.map (·.1)) : Lg p (Co.alarm p z c) := by
 unfold Co.alarm
 split
 ·exact h.zero rfl (Int.le_refl _) rfl rfl fun _ q => q
 next hn =>
  obtain ⟨a1, a2, a3, a4, a5⟩ := zop
  exact h.one (c' := Co.tell "alarm" (some z) { beLoud p c with alarms := c.alarms ++ [z] }) rfl rfl (by
   simp only [stp, if_neg a1, if_neg a2, if_neg a3, if_neg a4, if_neg a5, if_true]
   rw [if_pos ⟨hn, hz⟩]
   rfl) fun z hz => .inl hz
theorem Lg.alarms {p : Pl} : ∀ {zs : List Str} {c : Cs}, Lg p c -> (∀ z ∈ zs, z ∈ p.zones.map (·.1)) -> Lg p (Co.alarms p zs c)
 | [], _, h, _ => h
 | z :: zs, c, h, hz => Lg.alarms (zs := zs) (h.alarm (hz z (by simp))) fun y hy => hz y (y05 _ hy)
theorem Lg.comeIn {p : Pl} {c : Cs} (h : Lg p c) {z : Str} (k : Str) (hz : z ∈ p.zones.map (·.1)) (hm : c.mode = "on") : Lg p (Co.comeIn p z k c) := by
 unfold Co.comeIn
 split
 ·exact h.alarm hz
 ·obtain ⟨a1, a2, a3⟩ := zm9
  exact h.one (c' := Co.tell "coming" (some z) { c with mode := "coming", left := p.come, came := some z }) rfl rfl (by
   simp only [stp, if_neg a1, if_neg a2, if_neg a3, if_true]
   rw [hm, zpt, if_pos zdm]
   show some (c.alarms, ("on" : Str)) = some (c.alarms, md "coming")
   rw [zf4]) fun z hz => .inl hz
theorem Lg.disturb {p : Pl} {c : Cs} (h : Lg p c) {z : Str} (w : Str) (hz : z ∈ p.zones.map (·.1)) : Lg p (Co.disturb p z w c) := by
 unfold Co.disturb
 split
 ·exact h.alarm hz
 ·split
  next hm =>
   split
   ·obtain ⟨a1, a2, a3, a4⟩ := zoo
    exact h.one (c' := Co.tell "fault" (some z) c) rfl rfl (by
     simp only [stp, if_neg a1, if_neg a2, if_neg a3, if_neg a4, if_true]
     rw [hm, zco, if_pos rfl]
     show some (c.alarms, ("off" : Str)) = some (c.alarms, md c.mode)
     rw [hm, zco]) fun z hz => .inl hz
   ·exact h
  ·split
   ·exact h.alarm hz
   ·split
    next hm => exact h.comeIn _ hz hm
    ·exact h
theorem Lg.line {p : Pl} {c : Cs} (h : Lg p c) {z : Str} (w : Str) (hz : z ∈ p.zones.map (·.1)) : Lg p (Co.line p z w c) := by
 have h' : Lg p { c with lines := setL c.lines z w } := h.zero rfl (Int.le_refl _) rfl rfl fun _ q => q
 unfold Co.line
 split
 ·exact h
 ·split
  ·split
   ·exact h'.tell _ (by simp [idle])
   ·exact h'
  ·split
   ·exact h'
   ·exact h'.disturb w hz
theorem Lg.endLeaving {p : Pl} {c : Cs} (h : Lg p c) (hm : c.mode = "leaving") : Lg p (Co.endLeaving p c) := by
 obtain ⟨a1, a2⟩ := w_on
 have h1 : Lg p (Co.tell "on" none { c with mode := "on", left := 0 }) := h.one (c' := Co.tell "on" none { c with mode := "on", left := 0 }) rfl rfl (by
  simp only [stp, if_neg a1, if_neg a2, if_true]
  rw [hm, zcp, if_pos rfl]
  show some (c.alarms, ("on" : Str)) = some (c.alarms, md "on")
  rw [zpt]) fun z hz => .inl hz
 exact h1.alarms fun z hz => z8u hz
theorem Lg.endTime {p : Pl} {c : Cs} (h : Lg p c) (hw : Wf p c) (hm : c.mode = "leaving" \/ c.mode = "coming") : Lg p (Co.endTime p c) := by
 unfold Co.endTime
 split
 next q => exact h.endLeaving q
 next q =>
  have hc := hm.resolve_left q
  obtain ⟨z, hz⟩ := Option.ne_none_iff_exists'.mp (hw.cm hc)
  unfold Co.endComing
  rw [hz]
  refine Lg.alarm (c := { c with mode := "on", came := none }) (h.zero rfl (Int.le_refl _) rfl ?_ fun _ q => q) (hw.ca z hz).2
  show md "on" = md c.mode
  rw [hc, zpt, zf4]
theorem Lg.cd {p : Pl} {c : Cs} (h : Lg p c) {n : Int} (hn : 0 <= n) : Lg p (z21 n c) := h.zero rfl (show c.past <= c.past + n by omega) rfl rfl fun _ q => q
theorem Lg.ticks {p : Pl} {c : Cs} (h : Lg p c) (hw : Wf p c) (iv : Iv c) (n : Int) : Lg p (Co.ticks p n c) := by
 unfold Co.ticks
 split
 ·exact h
 ·split
  next q =>
   have hl := iv.t1 q.1
   exact ((h.cd (by omega)).endTime (hw.cd _) q.1).cd (by omega)
  ·exact h.cd (by omega)
theorem Lg.takeWrong {p : Pl} {c : Cs} (h : Lg p c) : Lg p (Co.takeWrong p c) := by
 have h1 : Lg p (wrong1 c) := (h.tell none (w := "wrong") (by simp [idle])).zero rfl (Int.le_refl _) rfl rfl fun _ q => q
 unfold Co.takeWrong
 split
 ·exact Lg.tell (c := beLoud p { wrong1 c with tries := 0, locked := 90 }) (h1.zero rfl (Int.le_refl _) rfl rfl fun _ q => q) none (by simp [idle])
 ·exact h1
theorem Lg.doSet {p : Pl} {c : Cs} (h : Lg p c) {w : Str} (hw : w ∈ p.codes.map (·.who)) (hm : c.mode = "off") : Lg p (Co.doSet p w c) := by
 have h1 : Lg p (Co.tell "set" (some w) { c with alarms := [], siren := 0, mode := "leaving", left := p.leave }) := h.one (c' := Co.tell "set" (some w) { c with alarms := [], siren := 0, mode := "leaving", left := p.leave }) rfl rfl (by
  simp only [stp, if_true]
  rw [hm, zco, if_pos ⟨rfl, by simpa using hw⟩]
  show some ([], ("leaving" : Str)) = some ([], md "leaving")
  rw [zcp]) fun z hz => .inl hz
 show Lg p (if p.leave <= 0 then Co.endLeaving p (Co.tell "set" (some w) { c with alarms := [], siren := 0, mode := "leaving", left := p.leave }) else Co.tell "set" (some w) { c with alarms := [], siren := 0, mode := "leaving", left := p.leave })
 split
 ·exact h1.endLeaving rfl
 ·exact h1
theorem Lg.takeRight {p : Pl} {c : Cs} (h : Lg p c) {k : Cd} (hk : k ∈ p.codes) {d : Str} {z : Option Str} (hd : d = "set" \/ d = "unset" \/ d = "shunt" \/ d = "free") (hz : okZ p d z) : Lg p (Co.takeRight p k d z c) := by
 have hwho : k.who ∈ p.codes.map (·.who) := y0n.mpr ⟨k, hk, rfl⟩
 have h' : Lg p { c with used := addU c.used k.fig } := h.zero rfl (Int.le_refl _) rfl rfl fun _ q => q
 have hag : ∀ wn, against p k d z c = some wn -> wn.1 ∈ idle := fun wn e => by
  unfold against at e
  generalize (if d = "free" then ("shunt" : Str) else d) = g at e
  split at e
  ·cases e; simp [idle]
  ·split at e
   ·cases e; simp [idle]
   ·split at e
    ·cases e; simp [idle]
    ·cases e
 unfold Co.takeRight
 split
 next e =>
  rcases zhu hd hz e with rfl | rfl | ⟨rfl, x, rfl, hx⟩ | ⟨rfl, x, rfl, hx⟩
  ·simp only [Co.doDeed, if_true]
   exact h'.doSet hwho (zbs e)
  ·simp only [Co.doDeed, if_neg z4v, if_true]
   exact h'.one (c' := Co.doUnset k.who { c with used := addU c.used k.fig }) rfl rfl (by
    simp only [stp, if_neg z4v, if_true]
    show some (c.alarms, ("off" : Str)) = some (c.alarms, md "off")
    rw [zco]) fun z hz => (by cases hz)
  ·simp only [Co.doDeed, if_neg z5z, if_neg z3o, if_true]
   refine h'.one (w := "shunt") (n := some x) rfl rfl (zd6 _ _ _ (by simp [idle])) fun y hy => ?_
   have hy' := (z3u _).mem_iff.mp hy
   rcases y13.mp hy' with q | q
   ·exact .inl q
   ·simp at q
    exact .inr ⟨rfl, by rw [q]⟩
  ·simp only [Co.doDeed, if_neg z72, if_neg z45, if_neg z46]
   exact h'.one (w := "free") (n := some x) rfl rfl (zd6 _ _ _ (by simp [idle])) fun y hy => .inl (List.mem_of_mem_erase hy)
 next w n e => exact h.tell _ (hag (w, n) e)
theorem Lg.code {p : Pl} {c : Cs} (h : Lg p c) (f : Str) {d : Str} {z : Option Str} (hd : d = "set" \/ d = "unset" \/ d = "shunt" \/ d = "free") (hz : okZ p d z) : Lg p (Co.code p f d z c) := by
 unfold Co.code
 split
 ·exact h.tell _ (by simp [idle])
 ·split
  ·exact h.takeWrong
  next k hk =>
   split
   ·exact h.takeWrong
   ·exact Lg.takeRight (c := { c with tries := 0 }) (h.zero rfl (Int.le_refl _) rfl rfl fun _ q => q) (z9g hk) hd hz
theorem Lg.happen {p : Pl} {c : Cs} (h : Lg p c) (hw : Wf p c) (iv : Iv c) {e : Et} (he : okE p e) : Lg p (Co.happen p c e) := by
 cases e with
 | line z w => exact h.line w he.1
 | code f d z => exact h.code f he.2.1 he.2.2
 | ticks n => exact h.ticks hw iv n
theorem Lg.run {p : Pl} (hp : DP p) : ∀ {es : List Et} {c : Cs}, Lg p c -> Wf p c -> Iv c -> (∀ e ∈ es, okE p e) -> Lg p (Co.run p c es)
 | [], _, h, _, _, _ => h
 | e :: es, c, h, hw, iv, he => Lg.run hp (es := es) (h.happen hw iv (he e (by simp))) (hw.happen (he e (by simp))) (iv.happen hp e) fun y hy => he y (y05 _ hy)
theorem Lg.begun (p : Pl) : Lg p (z2v p) := ⟨by show some ([], ("off" : Str)) = some ([], md "off"); rw [zco], by simp [z2v], by simp [z2v], by simp [z2v]⟩
def bW : Fs := (seq (iff (tstB (op2 oEq (nm 11) (cst (.str "set")))) (seq (asgN 6 (z3x []))
  (seq (iff (orT (tstB (op2 oNe (nm 7) (cst (.str "off")))) (tstB (op2 (oIn true) (nm 12) (nm 9)))) (rtn (cst (.bool false))) skip)
  (asg 7 (cst (.str "leaving"))))) skip)
  (seq (iff (tstB (op2 oEq (nm 11) (cst (.str "unset")))) (asg 7 (cst (.str "off"))) skip)
  (seq (iff (tstB (op2 oEq (nm 11) (cst (.str "on")))) (seq (iff (tstB (op2 oNe (nm 7) (cst (.str "leaving")))) (rtn (cst (.bool false))) skip)
  (asg 7 (cst (.str "on")))) skip)
  (seq (iff (orT (andT (tstB (op2 oEq (nm 11) (cst (.str "coming")))) (tstB (op2 oEq (nm 7) (cst (.str "off"))))) (andT (tstB (op2 oEq (nm 11) (cst (.str "fault")))) (tstB (op2 oNe (nm 7) (cst (.str "off")))))) (rtn (cst (.bool false))) skip)
  (iff (tstB (op2 oEq (nm 11) (cst (.str "alarm")))) (seq (iff (orT (tstB (op2 (oIn false) (nm 12) (nm 6))) (tstB (op2 (oIn true) (nm 12) (nm 8)))) (rtn (cst (.bool false))) skip)
  (app 6 (nmV 12))) skip)))))
section
variable (s0 s1 s2 s3 s4 s5 : Option Sl) (zs ppl : List Str)
def en (R : List Str) (m : Str) (s10 s11 s12 : Option Sl) : Ev := [s0, s1, s2, s3, s4, s5, some (.own (R.map .str)), some (.imm (.str m)), some (.imm (.list (zs.map .str))), some (.imm (.list (ppl.map .str))), s10, s11, s12, none]
theorem t_eq {R : List Str} {m : Str} {s10 s12 : Option Sl} {w kw : Str} (hw : okS w) (hk : okS kw) : (tstB (op2 oEq (nm 11) (cst (.str kw)))) (en s0 s1 s2 s3 s4 s5 zs ppl R m s10 (some (.imm (.str w))) s12) = some (decide (w = kw)) := by
 simp only [tstB, op2, nm, cst, en, List.getElem?_cons_succ, List.getElem?_cons_zero, y0q, z0b hw hk]
theorem zs6 {R : List Str} {m : Str} {s10 s11 s12 : Option Sl} {kw : Str} (hw : okS m) (hk : okS kw) : (tstB (op2 oNe (nm 7) (cst (.str kw)))) (en s0 s1 s2 s3 s4 s5 zs ppl R m s10 s11 s12) = some (!decide (m = kw)) := by
 simp only [tstB, op2, nm, cst, en, List.getElem?_cons_succ, List.getElem?_cons_zero, y0q, z3w hw hk]
theorem zs7 {R : List Str} {m : Str} {s10 s11 s12 : Option Sl} {kw : Str} (hw : okS m) (hk : okS kw) : (tstB (op2 oEq (nm 7) (cst (.str kw)))) (en s0 s1 s2 s3 s4 s5 zs ppl R m s10 s11 s12) = some (decide (m = kw)) := by
 simp only [tstB, op2, nm, cst, en, List.getElem?_cons_succ, List.getElem?_cons_zero, y0q, z0b hw hk]
theorem za5 {c : Ft} {a b : Fs} {ε : Ev} (h : c ε = some false) : iff c a b ε = b ε := by
 simp [iff, h]
theorem za3 {c : Ft} {a b : Fs} {ε : Ev} (h : c ε = some true) : iff c a b ε = a ε := by
 simp [iff, h]
theorem zqi (hzs : ∀ z ∈ zs, okS z) (hpp : ∀ z ∈ ppl, okS z) {R : List Str} {m : Str} (hR : ∀ z ∈ R, okS z) (hm : okS m) (hl : R.length < 100000) {w : Wd} (hw : okS w.2.1) (hn : ∀ n, w.2.2 = some n -> okS n) {s' : List Str × Str} (hs : stp zs ppl (R, m) w = some s') :
  bW (en s0 s1 s2 s3 s4 s5 zs ppl R m (some (.imm (.int w.1))) (some (.imm (.str w.2.1))) (some (.imm (oS w.2.2)))) = some (.nx (en s0 s1 s2 s3 s4 s5 zs ppl s'.1 s'.2 (some (.imm (.int w.1))) (some (.imm (.str w.2.1))) (some (.imm (oS w.2.2))))) := by
 obtain ⟨t, w, n⟩ := w
 simp only at hw hn hs ⊢
 have T : ∀ (R : List Str) (m : Str) (kw : Str), okS kw -> (tstB (op2 oEq (nm 11) (cst (.str kw)))) (en s0 s1 s2 s3 s4 s5 zs ppl R m (some (.imm (.int t))) (some (.imm (.str w))) (some (.imm (oS n)))) = some (decide (w = kw)) := fun R m kw hk => t_eq s0 s1 s2 s3 s4 s5 zs ppl hw hk
 have N7 : ∀ (R : List Str) (m : Str) (kw : Str), okS m -> okS kw -> (tstB (op2 oNe (nm 7) (cst (.str kw)))) (en s0 s1 s2 s3 s4 s5 zs ppl R m (some (.imm (.int t))) (some (.imm (.str w))) (some (.imm (oS n)))) = some (!decide (m = kw)) := fun R m kw h1 h2 => zs6 s0 s1 s2 s3 s4 s5 zs ppl h1 h2
 have E7 : ∀ (R : List Str) (m : Str) (kw : Str), okS m -> okS kw -> (tstB (op2 oEq (nm 7) (cst (.str kw)))) (en s0 s1 s2 s3 s4 s5 zs ppl R m (some (.imm (.int t))) (some (.imm (.str w))) (some (.imm (oS n)))) = some (decide (m = kw)) := fun R m kw h1 h2 => zs7 s0 s1 s2 s3 s4 s5 zs ppl h1 h2
 have okset := z02 "set"
 have okun := z02 "unset"
 have okon := z02 "on"
 have okco := z02 "coming"
 have okfa := z02 "fault"
 have okal := z02 "alarm"
 have okoff := z02 "off"
 have oklv := z02 "leaving"
 have Q4 : ∀ (R : List Str) (m : Str), okS m -> (w = "coming" -> m ≠ "off") -> (w = "fault" -> m = "off") -> (orT (andT (tstB (op2 oEq (nm 11) (cst (.str "coming")))) (tstB (op2 oEq (nm 7) (cst (.str "off"))))) (andT (tstB (op2 oEq (nm 11) (cst (.str "fault")))) (tstB (op2 oNe (nm 7) (cst (.str "off")))))) (en s0 s1 s2 s3 s4 s5 zs ppl R m (some (.imm (.int t))) (some (.imm (.str w))) (some (.imm (oS n)))) = some false := fun R m h0 h1 h2 => by
  simp only [orT, andT, T R m "coming" okco, T R m "fault" okfa, N7 R m "off" h0 okoff, E7 R m "off" h0 okoff, y0q]
  by_cases c1 : w = "coming"
  ·have := h1 c1
   have c2 : ¬ w = "fault" := by rw [c1]; decide +kernel
   simp [c1, this, show ¬ ("coming" : Str) = "fault" by decide +kernel]
  ·by_cases c2 : w = "fault"
   ·have := h2 c2
    simp [c2, this, show ¬ ("fault" : Str) = "coming" by decide +kernel]
   ·simp [c1, c2]
 unfold bW
 by_cases h1 : w = "set"
 ·have hs' : m = "off" /\ (∃ x, n = some x /\ x ∈ ppl) /\ s' = (([] : List Str), ("leaving" : Str)) := by
   simp only [stp, if_pos h1] at hs
   split at hs
   next q =>
    cases hs
    refine ⟨q.1, ?_, rfl⟩
    cases n with
    | none => simp at q
    | some x => exact ⟨x, rfl, by simpa using q.2⟩
   ·cases hs
  obtain ⟨rfl, ⟨x, rfl, hx⟩, rfl⟩ := hs'
  have k1 : ¬ w = "unset" := by rw [h1]; decide +kernel
  have k2 : ¬ w = "on" := by rw [h1]; decide +kernel
  have k3 : ¬ w = "coming" := by rw [h1]; decide +kernel
  have k4 : ¬ w = "fault" := by rw [h1]; decide +kernel
  have k5 : ¬ w = "alarm" := by rw [h1]; decide +kernel
  have i1 : oIn true (.str x) (.list (ppl.map .str)) = some (.bool false) := by rw [z4k true (hn x rfl) hpp]; simp [hx]
  refine z5u (ε' := en s0 s1 s2 s3 s4 s5 zs ppl [] "leaving" (some (.imm (.int t))) (some (.imm (.str w))) (some (.imm (oS (some x))))) ?_ ?_
  ·rw [za3 (by rw [T _ _ _ okset, decide_eq_true h1])]
   refine z5u (ε' := en s0 s1 s2 s3 s4 s5 zs ppl [] "off" (some (.imm (.int t))) (some (.imm (.str w))) (some (.imm (oS (some x))))) ?_ ?_
   ·simp only [asgN, z3x, args, y0q, List.length_nil, y2c, if_true]
    rfl
   ·refine z28 ?_ ?_
    ·simp only [orT, N7 _ _ _ okoff okoff, y0q]
     simp only [decide_true, Bool.not_true, y20, if_false]
     simp only [tstB, op2, nm, en, oS, List.getElem?_cons_succ, List.getElem?_cons_zero, y0q, i1]
    ·rfl
  refine z28 (by rw [T _ _ _ okun, decide_eq_false k1]) ?_
  refine z28 (by rw [T _ _ _ okon, decide_eq_false k2]) ?_
  refine z28 (Q4 _ _ oklv (fun q => absurd q k3) (fun q => absurd q k4)) ?_
  rw [za5 (by rw [T _ _ _ okal, decide_eq_false k5])]
  rfl
 ·refine z28 (by rw [T _ _ _ okset, decide_eq_false h1]) ?_
  by_cases h2 : w = "unset"
  ·have hs' : s' = (R, ("off" : Str)) := by
    simp only [stp, if_neg h1, if_pos h2] at hs
    exact (Option.some.inj hs).symm
   subst hs'
   have k2 : ¬ w = "on" := by rw [h2]; decide +kernel
   have k3 : ¬ w = "coming" := by rw [h2]; decide +kernel
   have k4 : ¬ w = "fault" := by rw [h2]; decide +kernel
   have k5 : ¬ w = "alarm" := by rw [h2]; decide +kernel
   refine z5u (ε' := en s0 s1 s2 s3 s4 s5 zs ppl R "off" (some (.imm (.int t))) (some (.imm (.str w))) (some (.imm (oS n)))) ?_ ?_
   ·rw [za3 (by rw [T _ _ _ okun, decide_eq_true h2])]
    rfl
   refine z28 (by rw [T _ _ _ okon, decide_eq_false k2]) ?_
   refine z28 (Q4 _ _ okoff (fun q => absurd q k3) (fun q => absurd q k4)) ?_
   rw [za5 (by rw [T _ _ _ okal, decide_eq_false k5])]
   rfl
  ·refine z28 (by rw [T _ _ _ okun, decide_eq_false h2]) ?_
   by_cases h3 : w = "on"
   ·have hs' : m = "leaving" /\ s' = (R, ("on" : Str)) := by
     simp only [stp, if_neg h1, if_neg h2, if_pos h3] at hs
     split at hs
     next q => exact ⟨q, (Option.some.inj hs).symm⟩
     ·cases hs
    obtain ⟨rfl, rfl⟩ := hs'
    have k3 : ¬ w = "coming" := by rw [h3]; decide +kernel
    have k4 : ¬ w = "fault" := by rw [h3]; decide +kernel
    have k5 : ¬ w = "alarm" := by rw [h3]; decide +kernel
    refine z5u (ε' := en s0 s1 s2 s3 s4 s5 zs ppl R "on" (some (.imm (.int t))) (some (.imm (.str w))) (some (.imm (oS n)))) ?_ ?_
    ·rw [za3 (by rw [T _ _ _ okon, decide_eq_true h3])]
     refine z28 (by rw [N7 _ _ _ oklv oklv]; simp) ?_
     rfl
    refine z28 (Q4 _ _ okon (fun q => absurd q k3) (fun q => absurd q k4)) ?_
    rw [za5 (by rw [T _ _ _ okal, decide_eq_false k5])]
    rfl
   ·refine z28 (by rw [T _ _ _ okon, decide_eq_false h3]) ?_
    have hs2 := hs
    simp only [stp, if_neg h1, if_neg h2, if_neg h3] at hs
    refine z28 (Q4 _ _ hm (fun q => ?_) (fun q => ?_)) ?_
    ·rw [if_pos q] at hs
     split at hs
     next z => exact z
     ·cases hs
    ·have nc : ¬ w = "coming" := by rw [q]; decide +kernel
     rw [if_neg nc, if_pos q] at hs
     split at hs
     next z => exact z
     ·cases hs
    by_cases h6 : w = "alarm"
    ·have nc : ¬ w = "coming" := by rw [h6]; decide +kernel
     have nf : ¬ w = "fault" := by rw [h6]; decide +kernel
     rw [if_neg nc, if_neg nf, if_pos h6] at hs
     rw [za3 (by rw [T _ _ _ okal, decide_eq_true h6])]
     cases n with
     | none => cases hs
     | some z =>
      simp only at hs
      split at hs
      next q =>
       cases hs
       have i1 : oIn false (.str z) (.list (R.map .str)) = some (.bool false) := by rw [z4k false (hn z rfl) hR]; simp [q.1]
       have i2 : oIn true (.str z) (.list (zs.map .str)) = some (.bool false) := by rw [z4k true (hn z rfl) hzs]; simp [q.2]
       refine z28 ?_ ?_
       ·simp only [orT, tstB, op2, nm, en, oS, List.getElem?_cons_succ, List.getElem?_cons_zero, y0q, i1, i2, y20, if_false]
       ·have hb : (R.map y23).length < big := by rw [y16]; unfold big; omega
        simp only [app, nmV, en, oS, List.getElem?_cons_succ, List.getElem?_cons_zero, y0q, if_pos hb, y1o, y1l, List.map_append, y0e, y1c]
      ·cases hs
    ·rw [za5 (by rw [T _ _ _ okal, decide_eq_false h6])]
     have : s' = (R, m) := by
      by_cases c1 : w = "coming"
      ·rw [if_pos c1] at hs
       split at hs
       ·exact (Option.some.inj hs).symm
       ·cases hs
      ·rw [if_neg c1] at hs
       by_cases c2 : w = "fault"
       ·rw [if_pos c2] at hs
        split at hs
        ·exact (Option.some.inj hs).symm
        ·cases hs
       ·rw [if_neg c2, if_neg h6] at hs
        exact (Option.some.inj hs).symm
     subst this
     rfl
theorem zos {zs ppl : List Str} {s s' : List Str × Str} {w : Wd} (h : stp zs ppl s w = some s') : s'.1.length <= s.1.length + 1 /\ ((∀ z ∈ s.1, z ∈ zs) -> ∀ z ∈ s'.1, z ∈ zs) /\ (okS s.2 -> okS s'.2) := by
 unfold stp at h
 repeat' split at h
 all_goals first | cases h | skip
 all_goals (refine ⟨by simp, ?_, ?_⟩)
 all_goals first | (intro q; exact q) | (intro _; first | exact z02 "leaving" | exact z02 "off" | exact z02 "on") | skip
 ·intro _ z hz
  cases hz
 ·rename_i q
  intro h0 y hy
  rcases y13.mp hy with h1 | h1
  ·exact h0 y h1
  ·simp at h1
   exact h1 ▸ q.2
theorem znv (hzs : ∀ z ∈ zs, okS z) (hpp : ∀ z ∈ ppl, okS z) : ∀ (ws : List Wd) (R : List Str) (m : Str) (s10 s11 s12 : Option Sl) (s' : List Str × Str), (∀ z ∈ R, z ∈ zs) -> okS m -> R.length + ws.length < 100000 -> (∀ w ∈ ws, okS w.2.1 /\ ∀ n, w.2.2 = some n -> okS n) -> sim zs ppl (R, m) ws = some s' ->
  ∃ s10' s11' s12', forL (gTu [(gNm 10), (gNm 11), (gNm 12)]) bW (ws.map encW) (en s0 s1 s2 s3 s4 s5 zs ppl R m s10 s11 s12) = some (.nx (en s0 s1 s2 s3 s4 s5 zs ppl s'.1 s'.2 s10' s11' s12'))
 | [], R, m, s10, s11, s12, s', _, _, _, _, e => by
  cases e
  exact ⟨s10, s11, s12, rfl⟩
 | w :: ws, R, m, s10, s11, s12, s', hR, hm, hl, hw, e => by
  simp only [sim, y01] at e
  obtain ⟨t, e1, e2⟩ := e
  obtain ⟨l1, l2, l3⟩ := zos e1
  simp only [y0x] at hl
  have st := zqi s0 s1 s2 s3 s4 s5 zs ppl hzs hpp (fun z hz => hzs z (hR z hz)) hm (by omega) (hw w (by simp)).1 (hw w (by simp)).2 e1
  obtain ⟨a, b, c, ih⟩ := znv hzs hpp ws t.1 t.2 (some (.imm (.int w.1))) (some (.imm (.str w.2.1))) (some (.imm (oS w.2.2))) s' (l2 hR) (l3 hm) (by simp only at l1; omega) (fun y hy => hw y (y05 _ hy)) e2
  refine ⟨a, b, c, ?_⟩
  rw [y0e, forL]
  have g : gTu [(gNm 10), (gNm 11), (gNm 12)] (encW w) (en s0 s1 s2 s3 s4 s5 zs ppl R m s10 s11 s12) = some (en s0 s1 s2 s3 s4 s5 zs ppl R m (some (.imm (.int w.1))) (some (.imm (.str w.2.1))) (some (.imm (oS w.2.2)))) := rfl
  rw [g]
  simp only [y0q, st]
  exact ih
end
def bR : Fs := (asg 2 (op2 oAdd (nm 2) (opN z9d [(nmV 1), (opN z50 [(nmV 0), (op2 oAdd (cst (.int 1)) (nm 3))]), (cst (.int 7))])))
theorem zo3 (ns : List Int) {p : Pl} (hp : DP p) : ∀ (ks : List Nat) (es : List Et) (s3 : Option Sl), (∀ e ∈ es, okE p e) -> es.length + 7 * ks.length <= 100 -> ∃ (es' : List Et) (s3' : Option Sl), (∀ e ∈ es', okE p e) /\ es'.length <= es.length + 7 * ks.length /\
  forL (gNm 3) bR (ks.map fun (k : Nat) => PyData.int (k : Int)) [some (.imm (z12 ns)), some (.imm (encP p)), some (.imm (.tuple (es.map encE))), s3, none, none, none, none, none, none, none, none, none, none] = some (.nx [some (.imm (z12 ns)), some (.imm (encP p)), some (.imm (.tuple (es'.map encE))), s3', none, none, none, none, none, none, none, none, none, none])
 | [], es, s3, he, _ => ⟨es, s3, he, by simp, rfl⟩
 | k :: ks, es, s3, he, hl => by
  obtain ⟨m, hm, x1⟩ := zhy ns (1 + k)
  obtain ⟨fs, hfs, hfl, xr⟩ := zqu hp m 7 hm (by decide)
  simp only [y0x] at hl
  have hb : (es.map encE).length + (fs.map encE).length <= big := by
   simp only [y16]
   unfold big
   omega
  have ea : oAdd (.tuple (es.map encE)) (.tuple (fs.map encE)) = some (.tuple ((es ++ fs).map encE)) := by
   simp only [oAdd]
   rw [if_pos hb, List.map_append]
  obtain ⟨es', s3', i1, i2, i3⟩ := zo3 ns hp ks (es ++ fs) (some (.imm (.int k))) (fun e h => by
   rcases y13.mp h with h | h
   ·exact he e h
   ·exact (hfs e h).ok) (by simp only [y2a]; omega)
  refine ⟨es', s3', i1, by simp only [y2a, y0x] at i2 ⊢; omega, ?_⟩
  rw [y0e, forL]
  have ck : (((1 + k : Nat) : Int)) = 1 + (k : Int) := by omega
  rw [ck] at x1
  have step : bR [some (.imm (z12 ns)), some (.imm (encP p)), some (.imm (.tuple (es.map encE))), some (.imm (.int k)), none, none, none, none, none, none, none, none, none, none] = some (.nx [some (.imm (z12 ns)), some (.imm (encP p)), some (.imm (.tuple ((es ++ fs).map encE))), some (.imm (.int k)), none, none, none, none, none, none, none, none, none, none]) := by
   simp only [bR, asg, op2, opN, args, nm, nmV, cst, List.getElem?_cons_succ, List.getElem?_cons_zero, y0q, y1w, z5s, x1, xr, ea, y1o, y1l]
  simp only [gNm, y1o, y1l, y0q, step]
  exact i3
theorem zcv : ∀ ns : List Int, zba (ns.map .int) = some ns
 | [] => rfl
 | n :: ns => by
  rw [y0e, zba, zcv ns]
  rfl
theorem zn8 (ns : List Int) (h : ns.length <= 63) : zja [z12 ns] = some (.bool true) := by
 obtain ⟨m0, hm0, x0⟩ := zhy ns 0
 obtain ⟨p, hp, xp⟩ := zpb m0
 obtain ⟨es, s3, hes, hel, xl⟩ := zo3 ns hp [0, 1, 2, 3] [] none (by simp) (by simp)
 have wp := hp.wp
 have wb := hp.begun
 have zl := hp.zl
 have cl := hp.cl
 have eb := znl p (by omega) wp
 have hel' : es.length <= 28 := by simpa using hel
 have xa := zns p (z2v p) es wb wp hes (by omega)
 have xs := zmd p (z2v p) es wb wp hes (by omega)
 have fb : fresh (z2v p) = z2v p := rfl
 have lg := Lg.run hp (Lg.begun p) wb (Iv.begun p) hes
 have iv := Iv.run hp (es := es) (Iv.begun p)
 have cn := Cn.run p es (Cn.begun p)
 have ws := wb.run hes
 have tw := Tw.run (Tw.fresh (z2v p)) wb hes
 have tl := zdc wb hes
 rw [fb] at xa xs tw
 generalize run p (z2v p) es = c at xa xs lg iv cn ws tw tl
 have tl' : c.told.length <= 1400 := by
  have z0 : (z2v p).told.length = 0 := rfl
  omega
 have tb : (c.told.map encW).length <= big := by rw [y16]; unfold big; omega
 have ct : z48 (gNm 0) (cstT true) (op2 oIx (nm 0) (cst (.int 0))) (c.told.map encW) [none] = some ((c.told.map (·.1)).map .int) := by
  have := zac encW (fun w => .int w.1) [] c.told none fun w hw => by simp! [sp2, encW]
  rw [this, List.map_map]
  rfl
 have sr : za6 [.list ((c.told.map (·.1)).map .int)] = some (.list ((c.told.map (·.1)).map .int)) := by
  show (zba ((c.told.map (·.1)).map .int)).bind _ = _
  rw [zcv]
  simp only [y0q]
  rw [if_pos ⟨lg.tm, by rw [y16]; omega⟩]
 have okt := zdk (t := .list ((c.told.map (·.1)).map .int)) (zdi (d := 0) fun y hy => by
  obtain ⟨u, _, rfl⟩ := y0n.mp hy
  exact zpq _ _)
 have zb : (p.zones.map encZ).length <= big := by rw [y16]; unfold big; omega
 have cb : (p.codes.map z1i).length <= big := by rw [y16]; unfold big; omega
 have cz : z48 (gNm 0) (cstT true) (op2 oIx (nm 0) (cst (.int 0))) (p.zones.map encZ) [none] = some ((p.zones.map (·.1)).map .str) := by
  have := zac encZ (fun z => .str z.1) [] p.zones none fun z hz => by simp! [sp2, encZ]
  rw [this, List.map_map]
  rfl
 have cc : z48 (gNm 0) (cstT true) (op2 oIx (nm 0) (cst (.int 1))) (p.codes.map z1i) [none] = some ((p.codes.map (·.who)).map .str) := by
  have := z8o (cc := cstT true) (ee := op2 oIx (nm 0) (cst (.int 1))) (caps := []) z1i (fun _ => true) (fun k => .str k.who) p.codes none fun k hk => ⟨rfl, fun _ => by simp! [sp2, z1i]⟩
  rw [List.filter_eq_self.mpr (fun _ _ => rfl)] at this
  rw [this, List.map_map]
  rfl
 have hzs : ∀ z ∈ p.zones.map (·.1), okS z := fun z hz => wb.okz hz
 have hpp : ∀ z ∈ p.codes.map (·.who), okS z := fun z hz => by
  obtain ⟨k, hk, rfl⟩ := y0n.mp hz
  exact (hp.okc k hk).2.1
 obtain ⟨s10, s11, s12, xw⟩ := znv (some (.imm (z12 ns))) (some (.imm (encP p))) (some (.imm (.tuple (es.map encE)))) s3 (some (.imm (.tuple (c.told.map encW)))) (some (.imm (.list ((c.told.map (·.1)).map .int)))) (p.zones.map (·.1)) (p.codes.map (·.who)) hzs hpp c.told [] "off" none none none _ (by simp) (z02 "off") (by simp; omega) (fun w hw => tw w hw) lg.sm
 have okm : okS (md c.mode) := by
  unfold md
  split
  ·exact z02 "on"
  ·exact ws.mo
 have okal := zdk (t := .list (c.alarms.map .str)) (zdi (d := 0) fun y hy => by
  obtain ⟨u, hu, rfl⟩ := y0n.mp hy
  exact zgj _ (ws.okal u hu))
 have q1 := z0b ws.mo (z02 "off")
 have q2 := z3w okm (z02 "off")
 have q3 := z3w ws.mo (z02 "off")
 have q4 := z0b okm (z02 "off")
 have q5 := z0b ws.mo (z02 "coming")
 have md1 : (md c.mode = "off") <-> c.mode = "off" := by
  unfold md
  split
  next e => rw [e]; simp [zdm, z9r]
  ·exact Iff.rfl
 have i0 : oIx (encS c) (.int 0) = some (.str c.mode) := rfl
 have i1 : oIx (encS c) (.int 1) = some (.int c.left) := rfl
 have i2 : oIx (encS c) (.int 2) = some (oS c.came) := rfl
 have i4 : oIx (encS c) (.int 4) = some (.tuple (c.shunts.map .str)) := rfl
 have i6 : oIx (encS c) (.int 6) = some (.tuple (c.alarms.map .str)) := rfl
 have shl := ws.shLen
 have shb : (c.shunts.map y23).length <= big := by rw [y16]; unfold big; omega
 have cw2 : z48 (gNm 0) (cstT true) (slice (nm 0) (opt (cst (.int 1))) optN) (c.told.map encW) [none] = some (c.told.map zc2) := by
  have := z8o (cc := cstT true) (ee := slice (nm 0) (opt (cst (.int 1))) optN) (caps := []) encW (fun _ => true) zc2 c.told none fun w hw => ⟨rfl, fun _ => by
   have sl1 : oSl (encW w) (some 1) none = some (zc2 w) := rfl
   simp [slice, nm, opt, optN, cst, sl1]⟩
  rw [List.filter_eq_self.mpr (fun _ _ => rfl)] at this
  exact this
 have okw2 : okL (c.told.map zc2) = true := by
  obtain ⟨k1, k2⟩ := zdj (d := 1) (ts := c.told.map zc2) fun y hy => by
   obtain ⟨w, hw, rfl⟩ := y0n.mp hy
   exact zht 0 (tw w hw).1 (tw w hw).2
  unfold okL
  rw [k1, decide_eq_true (by omega)]
  rfl
 have csh : z48 (gNm 0) (orT (tstB (op2 (oIn true) (nm 0) (nm 1))) (tstB (op2 (oIn true) (z0g [(cst (.str "shunt")), (nmV 0)]) (comp 1 [] (z2m (nmV 2)) (gNm 0) (cstT true) (slice (nm 0) (opt (cst (.int 1))) optN))))) (nmV 0) (c.shunts.map .str) [none, some (.imm (.list ((p.zones.map (·.1)).map .str))), some (.imm (.tuple (c.told.map encW)))] = some [] := by
  have := z8o (cc := orT (tstB (op2 (oIn true) (nm 0) (nm 1))) (tstB (op2 (oIn true) (z0g [(cst (.str "shunt")), (nmV 0)]) (comp 1 [] (z2m (nmV 2)) (gNm 0) (cstT true) (slice (nm 0) (opt (cst (.int 1))) optN))))) (ee := nmV 0) (caps := [some (.imm (.list ((p.zones.map (·.1)).map .str))), some (.imm (.tuple (c.told.map encW)))]) y23 (fun _ => false) y23 c.shunts none fun z hz => ⟨by
   have hzz := ws.sh.2 z hz
   have oz := ws.oksh z hz
   have j1 : oIn true (.str z) (.list ((p.zones.map (·.1)).map .str)) = some (.bool false) := by rw [z4k true oz hzs]; simp [hzz]
   obtain ⟨w, hw, ew⟩ := lg.sh z hz
   have okz2 : okN 1 (.tuple [.str "shunt", .str z]) := zht 0 (w := "shunt") (n := some z) (z02 "shunt") (fun x e => Option.some.inj e ▸ oz)
   have hin : hasT (.tuple [.str "shunt", .str z]) (c.told.map zc2) = true := by
    unfold hasT
    rw [List.any_eq_true]
    refine ⟨zc2 w, y0n.mpr ⟨w, hw, rfl⟩, ?_⟩
    unfold zc2
    rw [ew]
    have := zhv okz2
    unfold oEq at this
    rw [okz2.okT] at this
    simpa [oS] using this
   have j2 : oIn true (.tuple [.str "shunt", .str z]) (.list (c.told.map zc2)) = some (.bool false) := by
    show (if okT (.tuple [.str "shunt", .str z]) && okL (c.told.map zc2) then some (PyData.bool (if true then !hasT _ _ else _)) else none) = _
    rw [okz2.okT, okw2, hin]
    rfl
   simp only [orT, tstB, op2, nm, nmV, z0g, args, cst, comp, z2m, z34, y0h, y1c, y26, List.getElem?_cons_succ, List.getElem?_cons_zero, y0q, y1w, y0x, List.length_nil, Nat.zero_add, Nat.reduceAdd, z68, if_true, if_pos tb, j1]
   rw [cw2]
   simp only [y1w, y0q, j2]
   rfl, fun q => by cases q⟩
  rw [List.filter_eq_nil_iff.mpr (fun _ _ => by simp)] at this
  exact this
 have oke := zdk (t := .list []) (zdi (d := 0) fun y hy => by cases hy)
 have r4 : rng 0 4 = ([0, 1, 2, 3] : List Nat).map fun (k : Nat) => PyData.int (k : Int) := by simp [rng, List.range_succ]
 suffices hs : zqe [some (.imm (z12 ns)), none, none, none, none, none, none, none, none, none, none, none, none, none] = some (.rt (.bool true)) by
  unfold zja runF
  simp only [y0e, y1c, y0x, List.length_nil, List.cons_append, List.nil_append]
  exact congrArg (fun o => Option.bind o _) hs
 unfold zqe
 refine z5f (t := encP p) (by
  simp! [sp9] at x0 ⊢
  simp [x0, xp]) ?_
 simp only [y1o, y1l]
 refine z5f (t := .tuple []) (by simp [z0g, args]) ?_
 simp only [y1o, y1l]
 refine z5u (ε' := [some (.imm (z12 ns)), some (.imm (encP p)), some (.imm (.tuple (es.map encE))), s3, none, none, none, none, none, none, none, none, none, none]) ?_ ?_
 ·have it : z4z (cst (.int 4)) [some (.imm (z12 ns)), some (.imm (encP p)), some (.imm (.tuple [])), none, none, none, none, none, none, none, none, none, none, none] = some (rng 0 4) := by
   simp [z4z, cst, z7q]
  unfold for_
  rw [it, r4]
  exact xl
 refine z5f (t := .tuple (c.told.map encW)) (by
  simp only [opN, args, nmV, List.getElem?_cons_succ, List.getElem?_cons_zero, y0q, y1w, eb, xs]) ?_
 simp only [y1o, y1l]
 refine z5f (t := .list ((c.told.map (·.1)).map .int)) (by
  simp only [comp, z2m, nmV, List.getElem?_cons_succ, List.getElem?_cons_zero, y0q, if_pos tb, z34, y0h, y1c, y26]
  rw [ct]
  rfl) ?_
 simp only [y1o, y1l]
 refine z28 ?_ ?_
 ·simp only [tstB, op2, opN, args, nm, List.getElem?_cons_succ, List.getElem?_cons_zero, y0q, y1w, sr, okt]
 refine z5u (ε' := [some (.imm (z12 ns)), some (.imm (encP p)), some (.imm (.tuple (es.map encE))), s3, some (.imm (.tuple (c.told.map encW))), some (.imm (.list ((c.told.map (·.1)).map .int))), some (.own []), none, none, none, none, none, none, none]) ?_ ?_
 ·simp only [asgN, z3x, args, y0q, List.length_nil, y2c, if_true]
  rfl
 refine z5f (t := .str "off") rfl ?_
 simp only [y1o, y1l]
 refine z5f (t := .list ((p.zones.map (·.1)).map .str)) (by
  simp only [comp, z2m, op2, nm, cst, List.getElem?_cons_succ, List.getElem?_cons_zero, y0q, ix_z, if_pos zb, z34, y0h, y1c, y26]
  rw [cz]
  rfl) ?_
 simp only [y1o, y1l]
 refine z5f (t := .list ((p.codes.map (·.who)).map .str)) (by
  simp only [comp, z2m, op2, nm, cst, List.getElem?_cons_succ, List.getElem?_cons_zero, y0q, ix_c, if_pos cb, z34, y0h, y1c, y26]
  rw [cc]
  rfl) ?_
 simp only [y1o, y1l]
 refine z5u (ε' := [some (.imm (z12 ns)), some (.imm (encP p)), some (.imm (.tuple (es.map encE))), s3, some (.imm (.tuple (c.told.map encW))), some (.imm (.list ((c.told.map (·.1)).map .int))), some (.own (c.alarms.map .str)), some (.imm (.str (md c.mode))), some (.imm (.list ((p.zones.map (·.1)).map .str))), some (.imm (.list ((p.codes.map (·.who)).map .str))), s10, s11, s12, none]) ?_ ?_
 ·have it : z2m (nmV 4) [some (.imm (z12 ns)), some (.imm (encP p)), some (.imm (.tuple (es.map encE))), s3, some (.imm (.tuple (c.told.map encW))), some (.imm (.list ((c.told.map (·.1)).map .int))), some (.own []), some (.imm (.str "off")), some (.imm (.list ((p.zones.map (·.1)).map .str))), some (.imm (.list ((p.codes.map (·.who)).map .str))), none, none, none, none] = some (c.told.map encW) := rfl
  unfold for_
  rw [it]
  exact xw
 refine z5f (t := encS c) (by
  simp only [opN, args, nmV, List.getElem?_cons_succ, List.getElem?_cons_zero, y0q, y1w, eb, xa]) ?_
 simp only [y1o, y1l]
 refine z28 ?_ ?_
 ·simp only [orT, andT, tstB, op2, opN, args, nm, cst, List.getElem?_cons_succ, List.getElem?_cons_zero, y0q, y1w, i0, i6, ziq, okal, q1, q2, q3, q4]
  by_cases hm : c.mode = "off"
  ·simp [hm, zco]
  ·have : ¬ md c.mode = "off" := fun q => hm (md1.mp q)
   simp [hm, this]
 refine z28 ?_ ?_
 ·simp only [tstB, op2, comp, z2m, z3x, args, nm, cst, List.getElem?_cons_succ, List.getElem?_cons_zero, y0q, y1w, i4, if_pos shb, z34, y0h, y1c, y0e, List.cons_append, y26, List.nil_append, Option.join, id, List.length_nil, y2c, if_true]
  rw [csh]
  simp only [y1w, y0q, oke]
 have o1 : z7u (oS c.came) = some (.bool (decide (c.mode = "coming"))) := by
  by_cases hm : c.mode = "coming"
  ·obtain ⟨z, hz⟩ := Option.ne_none_iff_exists'.mp (ws.cm hm)
   rw [hz, decide_eq_true hm]
   rfl
  ·rw [cn hm, decide_eq_false hm]
   rfl
 have o2 : oGt (.int c.left) (.int 0) = some (.bool (decide (c.mode ∈ (["leaving", "coming"] : List Str)))) := by
  show some (PyData.bool (decide (0 < c.left))) = _
  congr 2
  by_cases ht : ze7 c
  ·have := iv.t1 ht
   have h2 : c.mode ∈ (["leaving", "coming"] : List Str) := by rcases ht with q | q <;> simp [q]
   rw [decide_eq_true h2, decide_eq_true (by omega)]
  ·have := iv.t0 ht
   have h2 : ¬ c.mode ∈ (["leaving", "coming"] : List Str) := fun q => ht (by unfold ze7; simpa using q)
   rw [decide_eq_false h2, decide_eq_false (by omega)]
 have o3 : oIn false (.str c.mode) (.tuple [.str "leaving", .str "coming"]) = some (.bool (decide (c.mode ∈ (["leaving", "coming"] : List Str)))) := z8h false (n := c.mode) (ns := ["leaving", "coming"]) ws.mo (fun k hk => z4j (l := ["leaving", "coming"]) (hx := hk))
 have e1 : ∀ b : Bool, oEq (.bool b) (.bool b) = some (.bool true) := fun b => zhv (zmz 0 b)
 simp only [rtn, andV, op1, op2, nm, z0g, args, cst, List.getElem?_cons_succ, List.getElem?_cons_zero, y0q, y1w, y0x, List.length_nil, Nat.zero_add, Nat.reduceAdd, z68, if_true, i0, i1, i2, o1, o2, o3, q5, e1]
end K16
end
end
section
namespace K16
open PySem PySem.Spec PyProof.Rows L2 D Co
theorem all_mk {l : PySem.W.OpenLaw} {w : World} {K : y00} {h : Heap} {mg : Str -> Option Value} {fa CCourse f1 f2 f3 f4 f5 f6 f7 f8 f9 f10 f11 f12 f13 f14 f15 f16 f17 f18 f19 f20 f21 f22 f23 f24 f25 f26 f27 f28 f29 f30 f31 f32 f33 f34 f35 f36 f37 f38 a_KINDS_SHUT_TO_SET a_KINDS_LEFT_BY : Addr} {od1 an1 od2 an2 od3 an3 od4 an4 od5 an5 od6 an6 od7 an7 od8 an8 od9 an9 od10 an10 od11 an11 od12 an12 od13 an13 od14 an14 od15 an15 od16 an16 od17 an17 od18 an18 od19 an19 od20 an20 od21 an21 od22 an22 od23 an23 od24 an24 od25 an25 od26 an26 od27 an27 od28 an28 od29 an29 od30 an30 od31 an31 od32 an32 od33 an33 od34 an34 od35 an35 od36 an36 od37 an37 od38 an38 od_KINDS_SHUT_TO_SET od_KINDS_LEFT_BY : Option Addr} {sl1 sl2 sl3 sl4 sl5 sl6 sl7 sl8 sl9 sl10 sl11 sl12 sl13 sl14 sl15 sl16 sl17 sl18 sl19 sl20 sl21 sl22 sl23 sl24 sl25 sl26 sl27 sl28 sl29 sl30 sl31 sl32 sl33 sl34 sl35 sl36 sl37 sl38 sl_KINDS_SHUT_TO_SET sl_KINDS_LEFT_BY : Array (Option Value)} {oc1 kV1 dc1 pm1 cd1 ct1 oc2 kV2 dc2 pm2 cd2 ct2 oc3 kV3 dc3 pm3 cd3 ct3 oc4 kV4 dc4 pm4 cd4 ct4 oc5 kV5 dc5 pm5 cd5 ct5 oc6 kV6 dc6 pm6 cd6 ct6 oc7 kV7 dc7 pm7 cd7 ct7 oc8 kV8 dc8 pm8 cd8 ct8 oc9 kV9 dc9 pm9 cd9 ct9 oc10 kV10 dc10 pm10 cd10 ct10 oc11 kV11 dc11 pm11 cd11 ct11 oc12 kV12 dc12 pm12 cd12 ct12 oc13 kV13 dc13 pm13 cd13 ct13 oc14 kV14 dc14 pm14 cd14 ct14 oc15 kV15 dc15 pm15 cd15 ct15 oc16 kV16 dc16 pm16 cd16 ct16 oc17 kV17 dc17 pm17 cd17 ct17 oc18 kV18 dc18 pm18 cd18 ct18 oc19 kV19 dc19 pm19 cd19 ct19 oc20 kV20 dc20 pm20 cd20 ct20 oc21 kV21 dc21 pm21 cd21 ct21 oc22 kV22 dc22 pm22 cd22 ct22 oc23 kV23 dc23 pm23 cd23 ct23 oc24 kV24 dc24 pm24 cd24 ct24 oc25 kV25 dc25 pm25 cd25 ct25 oc26 kV26 dc26 pm26 cd26 ct26 oc27 kV27 dc27 pm27 cd27 ct27 oc28 kV28 dc28 pm28 cd28 ct28 oc29 kV29 dc29 pm29 cd29 ct29 oc30 kV30 dc30 pm30 cd30 ct30 oc31 kV31 dc31 pm31 cd31 ct31 oc32 kV32 dc32 pm32 cd32 ct32 oc33 kV33 dc33 pm33 cd33 ct33 oc34 kV34 dc34 pm34 cd34 ct34 oc35 kV35 dc35 pm35 cd35 ct35 oc36 kV36 dc36 pm36 cd36 ct36 oc37 kV37 dc37 pm37 cd37 ct37 oc38 kV38 dc38 pm38 cd38 ct38 : Value} {t_WRONG_IN_A_ROW t_TICKS_LOCKED t_KINDS_SHUT_TO_SET0 t_KINDS_SHUT_TO_SET1 t_KINDS_LEFT_BY0 t_KINDS_LEFT_BY1 : Tok} {n_KINDS_SHUT_TO_SET n_KINDS_LEFT_BY : Nat} (X : K.In h) (G : h.Ns y0o mg) (hfa : mg "law" = some (.ref fa))
  (aCCourse : y0t K y0o "Course" = some (some (.ref CCourse)))
  (pgCourse : PySem.W.plainGet K CCourse Str.empty = true)
  (hdCourse : PySem.W.hasDictIn K CCourse = true)
  (poCourse : PySem.W.plainOver K CCourse = true)
  (saCourse : y0d K (.ref CCourse) "__setattr__" = some (some (.builtin "object.__setattr__")))
  (mkCourse : PySem.W.makesIn K CCourse = true)
  (kpCourse : y08 K (.ref CCourse) = true)
  (naCourse0 : y0d K (.ref CCourse) "plan" = some none)
  (naCourse1 : y0d K (.ref CCourse) "mode" = some none)
  (naCourse2 : y0d K (.ref CCourse) "left" = some none)
  (naCourse3 : y0d K (.ref CCourse) "came" = some none)
  (naCourse4 : y0d K (.ref CCourse) "lines" = some none)
  (naCourse5 : y0d K (.ref CCourse) "shunts" = some none)
  (naCourse6 : y0d K (.ref CCourse) "siren" = some none)
  (naCourse7 : y0d K (.ref CCourse) "alarms" = some none)
  (naCourse8 : y0d K (.ref CCourse) "tries" = some none)
  (naCourse9 : y0d K (.ref CCourse) "locked" = some none)
  (naCourse10 : y0d K (.ref CCourse) "used" = some none)
  (naCourse11 : y0d K (.ref CCourse) "past" = some none)
  (naCourse12 : y0d K (.ref CCourse) "told" = some none)
  (a1 : y0t K y0o "kind_of" = some (some (.ref f1)))
  (l1 : K.lookup f1 = some ⟨oc1, od1, .func (y0j "kind_of" "kind_of" (z0f z4q) (z0a z4q) (z01 z4q) .none kV1 dc1 pm1 an1 cd1 ct1), sl1⟩)
  (c1 : y0g K cd1 "kind_of" = true)
  (k1 : y08 K (.ref f1) = true)
  (a2 : y0t K y0o "begun" = some (some (.ref f2)))
  (l2 : K.lookup f2 = some ⟨oc2, od2, .func (y0j "begun" "begun" (z0f z5v) (z0a z5v) (z01 z5v) .none kV2 dc2 pm2 an2 cd2 ct2), sl2⟩)
  (c2 : y0g K cd2 "begun" = true)
  (k2 : y08 K (.ref f2) = true)
  (a3 : y0t K y0o "code_of" = some (some (.ref f3)))
  (l3 : K.lookup f3 = some ⟨oc3, od3, .func (y0j "code_of" "code_of" (z0f z4r) (z0a z4r) (z01 z4r) .none kV3 dc3 pm3 an3 cd3 ct3), sl3⟩)
  (c3 : y0g K cd3 "code_of" = true)
  (k3 : y08 K (.ref f3) = true)
  (a4 : y0t K y0o "lessened" = some (some (.ref f4)))
  (l4 : K.lookup f4 = some ⟨oc4, od4, .func (y0j "lessened" "lessened" (z0f z3v) (z0a z3v) (z01 z3v) .none kV4 dc4 pm4 an4 cd4 ct4), sl4⟩)
  (c4 : y0g K cd4 "lessened" = true)
  (k4 : y08 K (.ref f4) = true)
  (a5 : y0d K (.ref CCourse) "__init__" = some (some (.ref f5)))
  (i5 : y0z K (.ref f5) = true)
  (l5 : K.lookup f5 = some ⟨oc5, od5, .func (y0j "__init__" "Course.__init__" (z0f z0m) (z0a z0m) (z01 z0m) .none kV5 dc5 pm5 an5 cd5 ct5), sl5⟩)
  (c5 : y0g K cd5 "Course.__init__" = true)
  (k5 : y08 K (.ref f5) = true)
  (a6 : y0d K (.ref CCourse) "state" = some (some (.ref f6)))
  (i6 : y0z K (.ref f6) = true)
  (l6 : K.lookup f6 = some ⟨oc6, od6, .func (y0j "state" "Course.state" (z0f z26) (z0a z26) (z01 z26) .none kV6 dc6 pm6 an6 cd6 ct6), sl6⟩)
  (c6 : y0g K cd6 "Course.state" = true)
  (k6 : y08 K (.ref f6) = true)
  (a7 : y0d K (.ref CCourse) "tell" = some (some (.ref f7)))
  (i7 : y0z K (.ref f7) = true)
  (l7 : K.lookup f7 = some ⟨oc7, od7, .func (y0j "tell" "Course.tell" (z0f z2i) (z0a z2i) (z01 z2i) .none kV7 dc7 pm7 an7 cd7 ct7), sl7⟩)
  (c7 : y0g K cd7 "Course.tell" = true)
  (k7 : y08 K (.ref f7) = true)
  (a8 : y0d K (.ref CCourse) "be_loud" = some (some (.ref f8)))
  (i8 : y0z K (.ref f8) = true)
  (l8 : K.lookup f8 = some ⟨oc8, od8, .func (y0j "be_loud" "Course.be_loud" (z0f z1h) (z0a z1h) (z01 z1h) .none kV8 dc8 pm8 an8 cd8 ct8), sl8⟩)
  (c8 : y0g K cd8 "Course.be_loud" = true)
  (k8 : y08 K (.ref f8) = true)
  (a9 : y0d K (.ref CCourse) "alarm" = some (some (.ref f9)))
  (i9 : y0z K (.ref f9) = true)
  (l9 : K.lookup f9 = some ⟨oc9, od9, .func (y0j "alarm" "Course.alarm" (z0f z27) (z0a z27) (z01 z27) .none kV9 dc9 pm9 an9 cd9 ct9), sl9⟩)
  (c9 : y0g K cd9 "Course.alarm" = true)
  (k9 : y08 K (.ref f9) = true)
  (a10 : y0d K (.ref CCourse) "come_in" = some (some (.ref f10)))
  (i10 : y0z K (.ref f10) = true)
  (l10 : K.lookup f10 = some ⟨oc10, od10, .func (y0j "come_in" "Course.come_in" (z0f z1g) (z0a z1g) (z01 z1g) .none kV10 dc10 pm10 an10 cd10 ct10), sl10⟩)
  (c10 : y0g K cd10 "Course.come_in" = true)
  (k10 : y08 K (.ref f10) = true)
  (a11 : y0d K (.ref CCourse) "disturb" = some (some (.ref f11)))
  (i11 : y0z K (.ref f11) = true)
  (l11 : K.lookup f11 = some ⟨oc11, od11, .func (y0j "disturb" "Course.disturb" (z0f z1f) (z0a z1f) (z01 z1f) .none kV11 dc11 pm11 an11 cd11 ct11), sl11⟩)
  (c11 : y0g K cd11 "Course.disturb" = true)
  (k11 : y08 K (.ref f11) = true)
  (a12 : y0d K (.ref CCourse) "line" = some (some (.ref f12)))
  (i12 : y0z K (.ref f12) = true)
  (l12 : K.lookup f12 = some ⟨oc12, od12, .func (y0j "line" "Course.line" (z0f z2j) (z0a z2j) (z01 z2j) .none kV12 dc12 pm12 an12 cd12 ct12), sl12⟩)
  (c12 : y0g K cd12 "Course.line" = true)
  (k12 : y08 K (.ref f12) = true)
  (a13 : y0d K (.ref CCourse) "is_used_up" = some (some (.ref f13)))
  (i13 : y0z K (.ref f13) = true)
  (l13 : K.lookup f13 = some ⟨oc13, od13, .func (y0j "is_used_up" "Course.is_used_up" (z0f z0u) (z0a z0u) (z01 z0u) .none kV13 dc13 pm13 an13 cd13 ct13), sl13⟩)
  (c13 : y0g K cd13 "Course.is_used_up" = true)
  (k13 : y08 K (.ref f13) = true)
  (a14 : y0d K (.ref CCourse) "take_wrong" = some (some (.ref f14)))
  (i14 : y0z K (.ref f14) = true)
  (l14 : K.lookup f14 = some ⟨oc14, od14, .func (y0j "take_wrong" "Course.take_wrong" (z0f z0s) (z0a z0s) (z01 z0s) .none kV14 dc14 pm14 an14 cd14 ct14), sl14⟩)
  (c14 : y0g K cd14 "Course.take_wrong" = true)
  (k14 : y08 K (.ref f14) = true)
  (a15 : y0d K (.ref CCourse) "is_untimely" = some (some (.ref f15)))
  (i15 : y0z K (.ref f15) = true)
  (l15 : K.lookup f15 = some ⟨oc15, od15, .func (y0j "is_untimely" "Course.is_untimely" (z0f z0n) (z0a z0n) (z01 z0n) .none kV15 dc15 pm15 an15 cd15 ct15), sl15⟩)
  (c15 : y0g K cd15 "Course.is_untimely" = true)
  (k15 : y08 K (.ref f15) = true)
  (a16 : y0d K (.ref CCourse) "bare_zones" = some (some (.ref f16)))
  (i16 : y0z K (.ref f16) = true)
  (l16 : K.lookup f16 = some ⟨oc16, od16, .func (y0j "bare_zones" "Course.bare_zones" (z0f z0k) (z0a z0k) (z01 z0k) .none kV16 dc16 pm16 an16 cd16 ct16), sl16⟩)
  (c16 : y0g K cd16 "Course.bare_zones" = true)
  (k16 : y08 K (.ref f16) = true)
  (a17 : y0d K (.ref CCourse) "what_is_against" = some (some (.ref f17)))
  (i17 : y0z K (.ref f17) = true)
  (l17 : K.lookup f17 = some ⟨oc17, od17, .func (y0j "what_is_against" "Course.what_is_against" (z0f z0h) (z0a z0h) (z01 z0h) .none kV17 dc17 pm17 an17 cd17 ct17), sl17⟩)
  (c17 : y0g K cd17 "Course.what_is_against" = true)
  (k17 : y08 K (.ref f17) = true)
  (a18 : y0d K (.ref CCourse) "end_leaving" = some (some (.ref f18)))
  (i18 : y0z K (.ref f18) = true)
  (l18 : K.lookup f18 = some ⟨oc18, od18, .func (y0j "end_leaving" "Course.end_leaving" (z0f z0o) (z0a z0o) (z01 z0o) .none kV18 dc18 pm18 an18 cd18 ct18), sl18⟩)
  (c18 : y0g K cd18 "Course.end_leaving" = true)
  (k18 : y08 K (.ref f18) = true)
  (a19 : y0d K (.ref CCourse) "do_set" = some (some (.ref f19)))
  (i19 : y0z K (.ref f19) = true)
  (l19 : K.lookup f19 = some ⟨oc19, od19, .func (y0j "do_set" "Course.do_set" (z0f z1t) (z0a z1t) (z01 z1t) .none kV19 dc19 pm19 an19 cd19 ct19), sl19⟩)
  (c19 : y0g K cd19 "Course.do_set" = true)
  (k19 : y08 K (.ref f19) = true)
  (a20 : y0d K (.ref CCourse) "do_unset" = some (some (.ref f20)))
  (i20 : y0z K (.ref f20) = true)
  (l20 : K.lookup f20 = some ⟨oc20, od20, .func (y0j "do_unset" "Course.do_unset" (z0f z19) (z0a z19) (z01 z19) .none kV20 dc20 pm20 an20 cd20 ct20), sl20⟩)
  (c20 : y0g K cd20 "Course.do_unset" = true)
  (k20 : y08 K (.ref f20) = true)
  (a21 : y0d K (.ref CCourse) "do_deed" = some (some (.ref f21)))
  (i21 : y0z K (.ref f21) = true)
  (l21 : K.lookup f21 = some ⟨oc21, od21, .func (y0j "do_deed" "Course.do_deed" (z0f z1e) (z0a z1e) (z01 z1e) .none kV21 dc21 pm21 an21 cd21 ct21), sl21⟩)
  (c21 : y0g K cd21 "Course.do_deed" = true)
  (k21 : y08 K (.ref f21) = true)
  (a22 : y0d K (.ref CCourse) "take_right" = some (some (.ref f22)))
  (i22 : y0z K (.ref f22) = true)
  (l22 : K.lookup f22 = some ⟨oc22, od22, .func (y0j "take_right" "Course.take_right" (z0f z0t) (z0a z0t) (z01 z0t) .none kV22 dc22 pm22 an22 cd22 ct22), sl22⟩)
  (c22 : y0g K cd22 "Course.take_right" = true)
  (k22 : y08 K (.ref f22) = true)
  (a23 : y0d K (.ref CCourse) "code" = some (some (.ref f23)))
  (i23 : y0z K (.ref f23) = true)
  (l23 : K.lookup f23 = some ⟨oc23, od23, .func (y0j "code" "Course.code" (z0f z2k) (z0a z2k) (z01 z2k) .none kV23 dc23 pm23 an23 cd23 ct23), sl23⟩)
  (c23 : y0g K cd23 "Course.code" = true)
  (k23 : y08 K (.ref f23) = true)
  (a24 : y0d K (.ref CCourse) "count_down" = some (some (.ref f24)))
  (i24 : y0z K (.ref f24) = true)
  (l24 : K.lookup f24 = some ⟨oc24, od24, .func (y0j "count_down" "Course.count_down" (z0f z0w) (z0a z0w) (z01 z0w) .none kV24 dc24 pm24 an24 cd24 ct24), sl24⟩)
  (c24 : y0g K cd24 "Course.count_down" = true)
  (k24 : y08 K (.ref f24) = true)
  (a25 : y0d K (.ref CCourse) "end_coming" = some (some (.ref f25)))
  (i25 : y0z K (.ref f25) = true)
  (l25 : K.lookup f25 = some ⟨oc25, od25, .func (y0j "end_coming" "Course.end_coming" (z0f z0v) (z0a z0v) (z01 z0v) .none kV25 dc25 pm25 an25 cd25 ct25), sl25⟩)
  (c25 : y0g K cd25 "Course.end_coming" = true)
  (k25 : y08 K (.ref f25) = true)
  (a26 : y0d K (.ref CCourse) "end_time" = some (some (.ref f26)))
  (i26 : y0z K (.ref f26) = true)
  (l26 : K.lookup f26 = some ⟨oc26, od26, .func (y0j "end_time" "Course.end_time" (z0f z18) (z0a z18) (z01 z18) .none kV26 dc26 pm26 an26 cd26 ct26), sl26⟩)
  (c26 : y0g K cd26 "Course.end_time" = true)
  (k26 : y08 K (.ref f26) = true)
  (a27 : y0d K (.ref CCourse) "ticks" = some (some (.ref f27)))
  (i27 : y0z K (.ref f27) = true)
  (l27 : K.lookup f27 = some ⟨oc27, od27, .func (y0j "ticks" "Course.ticks" (z0f z25) (z0a z25) (z01 z25) .none kV27 dc27 pm27 an27 cd27 ct27), sl27⟩)
  (c27 : y0g K cd27 "Course.ticks" = true)
  (k27 : y08 K (.ref f27) = true)
  (a28 : y0d K (.ref CCourse) "happen" = some (some (.ref f28)))
  (i28 : y0z K (.ref f28) = true)
  (l28 : K.lookup f28 = some ⟨oc28, od28, .func (y0j "happen" "Course.happen" (z0f z1s) (z0a z1s) (z01 z1s) .none kV28 dc28 pm28 an28 cd28 ct28), sl28⟩)
  (c28 : y0g K cd28 "Course.happen" = true)
  (k28 : y08 K (.ref f28) = true)
  (a29 : y0t K y0o "course_of" = some (some (.ref f29)))
  (l29 : K.lookup f29 = some ⟨oc29, od29, .func (y0j "course_of" "course_of" (z0f z39) (z0a z39) (z01 z39) .none kV29 dc29 pm29 an29 cd29 ct29), sl29⟩)
  (c29 : y0g K cd29 "course_of" = true)
  (k29 : y08 K (.ref f29) = true)
  (a30 : y0t K y0o "after" = some (some (.ref f30)))
  (l30 : K.lookup f30 = some ⟨oc30, od30, .func (y0j "after" "after" (z0f z7s) (z0a z7s) (z01 z7s) .none kV30 dc30 pm30 an30 cd30 ct30), sl30⟩)
  (c30 : y0g K cd30 "after" = true)
  (k30 : y08 K (.ref f30) = true)
  (a31 : y0t K y0o "story" = some (some (.ref f31)))
  (l31 : K.lookup f31 = some ⟨oc31, od31, .func (y0j "story" "story" (z0f z7r) (z0a z7r) (z01 z7r) .none kV31 dc31 pm31 an31 cd31 ct31), sl31⟩)
  (c31 : y0g K cd31 "story" = true)
  (k31 : y08 K (.ref f31) = true)
  (a32 : y0t K y0o "_law_cell_at" = some (some (.ref f32)))
  (l32 : K.lookup f32 = some ⟨oc32, od32, .func (y0j "_law_cell_at" "_law_cell_at" (z0f z38) (z0a z38) (z01 z38) .none kV32 dc32 pm32 an32 cd32 ct32), sl32⟩)
  (c32 : y0g K cd32 "_law_cell_at" = true)
  (k32 : y08 K (.ref f32) = true)
  (a33 : y0t K y0o "_law_mixed" = some (some (.ref f33)))
  (l33 : K.lookup f33 = some ⟨oc33, od33, .func (y0j "_law_mixed" "_law_mixed" (z0f z4n) (z0a z4n) (z01 z4n) .none kV33 dc33 pm33 an33 cd33 ct33), sl33⟩)
  (c33 : y0g K cd33 "_law_mixed" = true)
  (k33 : y08 K (.ref f33) = true)
  (a34 : y0t K y0o "_law_drawn" = some (some (.ref f34)))
  (l34 : K.lookup f34 = some ⟨oc34, od34, .func (y0j "_law_drawn" "_law_drawn" (z0f z4p) (z0a z4p) (z01 z4p) .none kV34 dc34 pm34 an34 cd34 ct34), sl34⟩)
  (c34 : y0g K cd34 "_law_drawn" = true)
  (k34 : y08 K (.ref f34) = true)
  (a35 : y0t K y0o "_law_plan" = some (some (.ref f35)))
  (l35 : K.lookup f35 = some ⟨oc35, od35, .func (y0j "_law_plan" "_law_plan" (z0f z5d) (z0a z5d) (z01 z5d) .none kV35 dc35 pm35 an35 cd35 ct35), sl35⟩)
  (c35 : y0g K cd35 "_law_plan" = true)
  (k35 : y08 K (.ref f35) = true)
  (a36 : y0t K y0o "_law_event" = some (some (.ref f36)))
  (l36 : K.lookup f36 = some ⟨oc36, od36, .func (y0j "_law_event" "_law_event" (z0f z4o) (z0a z4o) (z01 z4o) .none kV36 dc36 pm36 an36 cd36 ct36), sl36⟩)
  (c36 : y0g K cd36 "_law_event" = true)
  (k36 : y08 K (.ref f36) = true)
  (a37 : y0t K y0o "_law_row" = some (some (.ref f37)))
  (l37 : K.lookup f37 = some ⟨oc37, od37, .func (y0j "_law_row" "_law_row" (z0f z6k) (z0a z6k) (z01 z6k) .none kV37 dc37 pm37 an37 cd37 ct37), sl37⟩)
  (c37 : y0g K cd37 "_law_row" = true)
  (k37 : y08 K (.ref f37) = true)
  (a38 : y0t K y0o "law" = some (some (.ref f38)))
  (l38 : K.lookup f38 = some ⟨oc38, od38, .func (y0j "law" "law" (z0f z8a) (z0a z8a) (z01 z8a) .none kV38 dc38 pm38 an38 cd38 ct38), sl38⟩)
  (c38 : y0g K cd38 "law" = true)
  (k38 : y08 K (.ref f38) = true)
  (z_tuple : y0t K y0o "tuple" = some none)
  (z_max : y0t K y0o "max" = some none)
  (z_dict : y0t K y0o "dict" = some none)
  (z_list : y0t K y0o "list" = some none)
  (z_zip : y0t K y0o "zip" = some none)
  (z_sorted : y0t K y0o "sorted" = some none)
  (z_len : y0t K y0o "len" = some none)
  (z_enumerate : y0t K y0o "enumerate" = some none)
  (z_range : y0t K y0o "range" = some none)
  (g_WRONG_IN_A_ROW : y0t K y0o "WRONG_IN_A_ROW" = some (some (.int 3 t_WRONG_IN_A_ROW)))
  (g_TICKS_LOCKED : y0t K y0o "TICKS_LOCKED" = some (some (.int 90 t_TICKS_LOCKED)))
  (g_KINDS_SHUT_TO_SET : y0t K y0o "KINDS_SHUT_TO_SET" = some (some (.ref a_KINDS_SHUT_TO_SET)))
  (q_KINDS_SHUT_TO_SET : K.lookup a_KINDS_SHUT_TO_SET = some ⟨.type "tuple", od_KINDS_SHUT_TO_SET, .seq #[.str "day" t_KINDS_SHUT_TO_SET0, .str "once" t_KINDS_SHUT_TO_SET1] n_KINDS_SHUT_TO_SET, sl_KINDS_SHUT_TO_SET⟩)
  (g_KINDS_LEFT_BY : y0t K y0o "KINDS_LEFT_BY" = some (some (.ref a_KINDS_LEFT_BY)))
  (q_KINDS_LEFT_BY : K.lookup a_KINDS_LEFT_BY = some ⟨.type "tuple", od_KINDS_LEFT_BY, .seq #[.str "inner" t_KINDS_LEFT_BY0, .str "way" t_KINDS_LEFT_BY1] n_KINDS_LEFT_BY, sl_KINDS_LEFT_BY⟩) :
  ∃ fd : y0b, (∀ (s : y04) (v : Value), BindsTo s fd ⟨[v], []⟩ [("_law_script", v)]) /\ ∀ base : Heap, K.In base -> base.Ns y0o mg -> FnOk l.prog w K mg base CX0 12 fa fd ["_law_script"] (@spT t0 K 1 zja) := by
 have e := hfa.symm.trans (y14 X G a38)
 cases e
 refine ⟨y0j "law" "law" (z0f z8a) (z0a z8a) (z01 z8a) .none kV38 dc38 pm38 an38 cd38 ct38, fun s v => .of_eq rfl, fun base _ _ => ?_⟩
 letI tt : Tbl := ⟨[], fun c => match c with | 0 => ["plan", "mode", "left", "came", "lines", "shunts", "siren", "alarms", "tries", "locked", "used", "past", "told"] | _ => [], fun c => match c with | 0 => some CCourse | _ => none⟩
 have kcCourse : ClOk K 0 CCourse ["plan", "mode", "left", "came", "lines", "shunts", "siren", "alarms", "tries", "locked", "used", "past", "told"] := ⟨rfl, rfl, ⟨pgCourse, hdCourse, poCourse, saCourse⟩, by decide +kernel, fun f hf => by
  simp only [y09, List.not_mem_nil, or_false] at hf
  rcases hf with rfl | rfl | rfl | rfl | rfl | rfl | rfl | rfl | rfl | rfl | rfl | rfl | rfl
  ·exact naCourse0
  ·exact naCourse1
  ·exact naCourse2
  ·exact naCourse3
  ·exact naCourse4
  ·exact naCourse5
  ·exact naCourse6
  ·exact naCourse7
  ·exact naCourse8
  ·exact naCourse9
  ·exact naCourse10
  ·exact naCourse11
  ·exact naCourse12, by decide⟩
 replace z_tuple := y1f X G z_tuple
 replace z_max := y1f X G z_max
 replace z_dict := y1f X G z_dict
 replace z_list := y1f X G z_list
 replace z_zip := y1f X G z_zip
 replace z_sorted := y1f X G z_sorted
 replace z_len := y1f X G z_len
 replace z_enumerate := y1f X G z_enumerate
 replace z_range := y1f X G z_range
 replace g_WRONG_IN_A_ROW := y14 X G g_WRONG_IN_A_ROW
 replace g_TICKS_LOCKED := y14 X G g_TICKS_LOCKED
 replace g_KINDS_SHUT_TO_SET := y14 X G g_KINDS_SHUT_TO_SET
 have tt_KINDS_SHUT_TO_SET : ∃ (o : Obj) (its : Array Value) (n : Nat), K.lookup a_KINDS_SHUT_TO_SET = some o /\ o.cls = .type "tuple" /\ o.data = .seq its n /\ its.size <= y0k /\ Vals ((["day", "once"] : List Str).map V.str) its.toList := ⟨_, _, _, q_KINDS_SHUT_TO_SET, rfl, rfl, by show 2 <= y0k; decide, (.cons ⟨_, rfl⟩ (.cons ⟨_, rfl⟩ .nil))⟩
 replace g_KINDS_LEFT_BY := y14 X G g_KINDS_LEFT_BY
 have tt_KINDS_LEFT_BY : ∃ (o : Obj) (its : Array Value) (n : Nat), K.lookup a_KINDS_LEFT_BY = some o /\ o.cls = .type "tuple" /\ o.data = .seq its n /\ its.size <= y0k /\ Vals ((["inner", "way"] : List Str).map V.str) its.toList := ⟨_, _, _, q_KINDS_LEFT_BY, rfl, rfl, by show 2 <= y0k; decide, (.cons ⟨_, rfl⟩ (.cons ⟨_, rfl⟩ .nil))⟩
 have F1 := z16 (st := z4q) l1 c1 k1
 have C_kind_of := z6w (P := l.prog) (w := w) (base := base) (k := 0) F1 (y14 X G a1)
 have F2 := z16 (st := z5v) l2 c2 k2
 have C_begun := zdz (P := l.prog) (w := w) (base := base) (k := 0) F2 (y14 X G a2) z_tuple
 have F3 := z16 (st := z4r) l3 c3 k3
 have C_code_of := zbl (P := l.prog) (w := w) (base := base) (k := 0) F3 (y14 X G a3)
 have F4 := z16 (st := z3v) l4 c4 k4
 have C_lessened := z5o (P := l.prog) (w := w) (base := base) (k := 0) F4 (y14 X G a4) z_max
 have F5 := z16 (st := z0m) l5 c5 k5
 have C_Course := z9i (P := l.prog) (w := w) (base := base) (k := 0) F5 ⟨mkCourse, a5, i5, kpCourse⟩ (y14 X G aCCourse) kcCourse z_dict z_list z_zip
 have F6 := z16 (st := z26) l6 c6 k6
 have C_Course_state := z5j (P := l.prog) (w := w) (mg := mg) (base := base) (k := 0) F6 (⟨a6, i6, k6⟩) kcCourse z_tuple
 have F7 := z16 (st := z2i) l7 c7 k7
 have C_Course_tell := z07 (P := l.prog) (w := w) (mg := mg) (base := base) (k := 0) F7 (⟨a7, i7, k7⟩) kcCourse
 have F8 := z16 (st := z1h) l8 c8 k8
 have C_Course_be_loud := z2o (P := l.prog) (w := w) (mg := mg) (base := base) (k := 0) F8 (⟨a8, i8, k8⟩) kcCourse
 have F9 := z16 (st := z27) l9 c9 k9
 have C_Course_alarm := z11 (P := l.prog) (w := w) (mg := mg) (base := base) (k := 1) F9 (⟨a9, i9, k9⟩) kcCourse (C_Course_be_loud.mono (by decide)) (C_Course_tell.mono (by decide))
 have F10 := z16 (st := z1g) l10 c10 k10
 have C_Course_come_in := z4d (P := l.prog) (w := w) (mg := mg) (base := base) (k := 2) F10 (⟨a10, i10, k10⟩) kcCourse (C_Course_tell.mono (by decide)) (C_Course_alarm.mono (by decide))
 have F11 := z16 (st := z1f) l11 c11 k11
 have C_Course_disturb := z4c (P := l.prog) (w := w) (mg := mg) (base := base) (k := 3) F11 (⟨a11, i11, k11⟩) kcCourse (C_kind_of.mono (by decide)) (C_Course_alarm.mono (by decide)) (C_Course_tell.mono (by decide)) (C_Course_come_in.mono (by decide))
 have F12 := z16 (st := z2j) l12 c12 k12
 have C_Course_line := z65 (P := l.prog) (w := w) (mg := mg) (base := base) (k := 4) F12 (⟨a12, i12, k12⟩) kcCourse (C_Course_tell.mono (by decide)) (C_Course_disturb.mono (by decide))
 have F13 := z16 (st := z0u) l13 c13 k13
 have C_Course_is_used_up := z3d (P := l.prog) (w := w) (mg := mg) (base := base) (k := 0) F13 (⟨a13, i13, k13⟩) kcCourse
 have F14 := z16 (st := z0s) l14 c14 k14
 have C_Course_take_wrong := z3b (P := l.prog) (w := w) (mg := mg) (base := base) (k := 1) F14 (⟨a14, i14, k14⟩) kcCourse (C_Course_tell.mono (by decide)) (C_Course_be_loud.mono (by decide)) g_WRONG_IN_A_ROW g_TICKS_LOCKED
 have F15 := z16 (st := z0n) l15 c15 k15
 have C_Course_is_untimely := z2z (P := l.prog) (w := w) (mg := mg) (base := base) (k := 1) F15 (⟨a15, i15, k15⟩) kcCourse (C_kind_of.mono (by decide))
 have F16 := z16 (st := z0k) l16 c16 k16
 have C_Course_bare_zones := z1y (P := l.prog) (w := w) (mg := mg) (base := base) (k := 0) F16 (⟨a16, i16, k16⟩) kcCourse
 have F17 := z16 (st := z0h) l17 c17 k17
 have C_Course_what_is_against := z2g (P := l.prog) (w := w) (mg := mg) (base := base) (k := 2) F17 (⟨a17, i17, k17⟩) kcCourse (C_Course_is_untimely.mono (by decide)) (C_Course_bare_zones.mono (by decide)) g_KINDS_SHUT_TO_SET tt_KINDS_SHUT_TO_SET
 have F18 := z16 (st := z0o) l18 c18 k18
 have C_Course_end_leaving := z1l (P := l.prog) (w := w) (mg := mg) (base := base) (k := 2) F18 (⟨a18, i18, k18⟩) kcCourse (C_Course_tell.mono (by decide)) (C_Course_bare_zones.mono (by decide)) (C_Course_alarm.mono (by decide)) g_KINDS_LEFT_BY tt_KINDS_LEFT_BY
 have F19 := z16 (st := z1t) l19 c19 k19
 have C_Course_do_set := z55 (P := l.prog) (w := w) (mg := mg) (base := base) (k := 3) F19 (⟨a19, i19, k19⟩) kcCourse (C_Course_tell.mono (by decide)) (C_Course_end_leaving.mono (by decide))
 have F20 := z16 (st := z19) l20 c20 k20
 have C_Course_do_unset := z40 (P := l.prog) (w := w) (mg := mg) (base := base) (k := 1) F20 (⟨a20, i20, k20⟩) kcCourse (C_Course_tell.mono (by decide))
 have F21 := z16 (st := z1e) l21 c21 k21
 have C_Course_do_deed := z4b (P := l.prog) (w := w) (mg := mg) (base := base) (k := 4) F21 (⟨a21, i21, k21⟩) kcCourse (C_Course_do_set.mono (by decide)) (C_Course_do_unset.mono (by decide)) z_sorted (C_Course_tell.mono (by decide))
 have F22 := z16 (st := z0t) l22 c22 k22
 have C_Course_take_right := z3c (P := l.prog) (w := w) (mg := mg) (base := base) (k := 5) F22 (⟨a22, i22, k22⟩) kcCourse (C_Course_what_is_against.mono (by decide)) (C_Course_do_deed.mono (by decide)) (C_Course_tell.mono (by decide))
 have F23 := z16 (st := z2k) l23 c23 k23
 have C_Course_code := z66 (P := l.prog) (w := w) (mg := mg) (base := base) (k := 6) F23 (⟨a23, i23, k23⟩) kcCourse (C_code_of.mono (by decide)) (C_Course_tell.mono (by decide)) (C_Course_is_used_up.mono (by decide)) (C_Course_take_wrong.mono (by decide)) (C_Course_take_right.mono (by decide))
 have F24 := z16 (st := z0w) l24 c24 k24
 have C_Course_count_down := z1x (P := l.prog) (w := w) (mg := mg) (base := base) (k := 1) F24 (⟨a24, i24, k24⟩) kcCourse (C_lessened.mono (by decide))
 have F25 := z16 (st := z0v) l25 c25 k25
 have C_Course_end_coming := z3e (P := l.prog) (w := w) (mg := mg) (base := base) (k := 2) F25 (⟨a25, i25, k25⟩) kcCourse (C_Course_alarm.mono (by decide))
 have F26 := z16 (st := z18) l26 c26 k26
 have C_Course_end_time := z3z (P := l.prog) (w := w) (mg := mg) (base := base) (k := 3) F26 (⟨a26, i26, k26⟩) kcCourse (C_Course_end_leaving.mono (by decide)) (C_Course_end_coming.mono (by decide))
 have F27 := z16 (st := z25) l27 c27 k27
 have C_Course_ticks := z5i (P := l.prog) (w := w) (mg := mg) (base := base) (k := 4) F27 (⟨a27, i27, k27⟩) kcCourse (C_Course_count_down.mono (by decide)) (C_Course_end_time.mono (by decide))
 have F28 := z16 (st := z1s) l28 c28 k28
 have C_Course_happen := z54 (P := l.prog) (w := w) (mg := mg) (base := base) (k := 7) F28 (⟨a28, i28, k28⟩) kcCourse (C_Course_line.mono (by decide)) (C_Course_code.mono (by decide)) (C_Course_ticks.mono (by decide))
 have F29 := z16 (st := z39) l29 c29 k29
 have C_course_of := z53 (P := l.prog) (w := w) (base := base) (k := 8) F29 (y14 X G a29) kcCourse (C_Course.mono (by decide)) (C_Course_happen.mono (by decide))
 have F30 := z16 (st := z7s) l30 c30 k30
 have C_after := zha (P := l.prog) (w := w) (base := base) (k := 10) F30 (y14 X G a30) kcCourse (C_Course_state.mono (by decide)) (C_course_of.mono (by decide))
 have F31 := z16 (st := z7r) l31 c31 k31
 have C_story := zh8 (P := l.prog) (w := w) (base := base) (k := 10) F31 (y14 X G a31) kcCourse z_tuple (C_course_of.mono (by decide))
 have F32 := z16 (st := z38) l32 c32 k32
 have C_l_cell_at := z7y (P := l.prog) (w := w) (base := base) (k := 0) F32 (y14 X G a32) z_len
 have F33 := z16 (st := z4n) l33 c33 k33
 have C_l_mixed := z8q (P := l.prog) (w := w) (base := base) (k := 1) F33 (y14 X G a33) (C_l_cell_at.mono (by decide))
 have F34 := z16 (st := z4p) l34 c34 k34
 have C_l_drawn := z52 (P := l.prog) (w := w) (base := base) (k := 0) F34 (y14 X G a34)
 have F35 := z16 (st := z5d) l35 c35 k35
 have C_l_plan := zdy (P := l.prog) (w := w) (base := base) (k := 1) F35 (y14 X G a35) z_enumerate (C_l_drawn.mono (by decide)) z_tuple z_range
 have F36 := z16 (st := z4o) l36 c36 k36
 have C_l_event := zbk (P := l.prog) (w := w) (base := base) (k := 0) F36 (y14 X G a36) z_len
 have F37 := z16 (st := z6k) l37 c37 k37
 have C_l_row := zh9 (P := l.prog) (w := w) (base := base) (k := 1) F37 (y14 X G a37) z_tuple (C_l_event.mono (by decide)) z_len z_range (C_l_drawn.mono (by decide))
 have F38 := z16 (st := z8a) l38 c38 k38
 exact zq8 rfl (zta (k := 11) F38 (C_l_plan.mono (by decide)) z_range (C_story.mono (by decide)) (C_after.mono (by decide)) (C_l_mixed.mono (by decide)) (C_begun.mono (by decide)) z_sorted (C_l_row.mono (by decide)) z_list)
theorem walk {l : PySem.W.OpenLaw} {q : y0r} {loose : List Str} {XP : (Str -> Option Value) -> Heap -> Prop} {YP : World -> Heap -> Prop} {d : DefRec} {K : Params -> y00} (hn : l.most = some 63) (hdf : d.params.defaults = [])
  (hL : ∀ w : World, noL (K w.params) = true) (hY : ∀ (w : World) (h : Heap), YP w h -> (K w.params).In h)
  (F : ∀ (w : World) (mg : Str -> Option Value) (fa : Addr) (h : Heap), (K w.params).In h -> h.Ns y0o mg -> mg d.name = some (.ref fa) ->
   ∃ fd : y0b, (∀ (s : y04) (u : Value), BindsTo s fd ⟨[u], []⟩ [("_law_script", u)]) /\ ∀ base : Heap, (K w.params).In base -> base.Ns y0o mg -> FnOk l.prog w (K w.params) mg base CX0 12 fa fd ["_law_script"] (@spT t0 (K w.params) 1 zja)) :
  PySem.W.WalkO q loose XP YP l.row.toRowW d [] (fun f vs => PySem.call f vs) :=
 L2.walk_of (n := 63) (k := 12) (x := "_law_script") (CX := fun _ => CX0) (sp := fun w => @spT t0 (K w.params) 1 zja) hn (by decide) hdf ⟨rfl, by decide, by decide⟩ hY F (fun w _ _ ns hl _ hS => zju (hL w) (zn8 ns hl) hS) fun _ _ _ _ _ z => z
end K16
open PySem PySem.W PyProof.Rows
set_option maxRecDepth 100000 in
set_option maxHeartbeats 0 in
theorem PySem.Challenge.cw_doorwatch_k16_whole_logs_holds : PySem.Challenge.rw_doorwatch_k16_whole_logs.Holds := by
 w_on; o_law; k_head; (case hw => w_witness2)
 k_fill
 refine K16.walk (l := PySem.Challenge.rw_doorwatch_k16_whole_logs) rfl rfl ?L (fun w h Y => PySem.W.kIn_of Y) ?F
 case L =>
  intro w
  first | rfl | (with_unfolding_all rfl) | kernel_rfl
 case F =>
  intro w mg fa h KX G hmg
  refine' K16.all_mk KX G hmg ?aCCourse ?pgCourse ?hdCourse ?poCourse ?saCourse ?mkCourse ?kpCourse ?naCourse0 ?naCourse1 ?naCourse2 ?naCourse3 ?naCourse4 ?naCourse5 ?naCourse6 ?naCourse7 ?naCourse8 ?naCourse9 ?naCourse10 ?naCourse11 ?naCourse12 ?a1 ?l1 ?c1 ?k1 ?a2 ?l2 ?c2 ?k2 ?a3 ?l3 ?c3 ?k3 ?a4 ?l4 ?c4 ?k4 ?a5 ?i5 ?l5 ?c5 ?k5 ?a6 ?i6 ?l6 ?c6 ?k6 ?a7 ?i7 ?l7 ?c7 ?k7 ?a8 ?i8 ?l8 ?c8 ?k8 ?a9 ?i9 ?l9 ?c9 ?k9 ?a10 ?i10 ?l10 ?c10 ?k10 ?a11 ?i11 ?l11 ?c11 ?k11 ?a12 ?i12 ?l12 ?c12 ?k12 ?a13 ?i13 ?l13 ?c13 ?k13 ?a14 ?i14 ?l14 ?c14 ?k14 ?a15 ?i15 ?l15 ?c15 ?k15 ?a16 ?i16 ?l16 ?c16 ?k16 ?a17 ?i17 ?l17 ?c17 ?k17 ?a18 ?i18 ?l18 ?c18 ?k18 ?a19 ?i19 ?l19 ?c19 ?k19 ?a20 ?i20 ?l20 ?c20 ?k20 ?a21 ?i21 ?l21 ?c21 ?k21 ?a22 ?i22 ?l22 ?c22 ?k22 ?a23 ?i23 ?l23 ?c23 ?k23 ?a24 ?i24 ?l24 ?c24 ?k24 ?a25 ?i25 ?l25 ?c25 ?k25 ?a26 ?i26 ?l26 ?c26 ?k26 ?a27 ?i27 ?l27 ?c27 ?k27 ?a28 ?i28 ?l28 ?c28 ?k28 ?a29 ?l29 ?c29 ?k29 ?a30 ?l30 ?c30 ?k30 ?a31 ?l31 ?c31 ?k31 ?a32 ?l32 ?c32 ?k32 ?a33 ?l33 ?c33 ?k33 ?a34 ?l34 ?c34 ?k34 ?a35 ?l35 ?c35 ?k35 ?a36 ?l36 ?c36 ?k36 ?a37 ?l37 ?c37 ?k37 ?a38 ?l38 ?c38 ?k38 ?z_tuple ?z_max ?z_dict ?z_list ?z_zip ?z_sorted ?z_len ?z_enumerate ?z_range ?g_WRONG_IN_A_ROW ?g_TICKS_LOCKED ?g_KINDS_SHUT_TO_SET ?q_KINDS_SHUT_TO_SET ?g_KINDS_LEFT_BY ?q_KINDS_LEFT_BY
  (case aCCourse => k_is)
  (case pgCourse => k_is)
  (case hdCourse => k_is)
  (case poCourse => k_is)
  (case saCourse => k_is)
  (case mkCourse => k_is)
  (case kpCourse => k_is)
  (case naCourse0 => k_is)
  (case naCourse1 => k_is)
  (case naCourse2 => k_is)
  (case naCourse3 => k_is)
  (case naCourse4 => k_is)
  (case naCourse5 => k_is)
  (case naCourse6 => k_is)
  (case naCourse7 => k_is)
  (case naCourse8 => k_is)
  (case naCourse9 => k_is)
  (case naCourse10 => k_is)
  (case naCourse11 => k_is)
  (case naCourse12 => k_is)
  (case a1 => k_is)
  (case l1 => k_is)
  (case c1 => k_is)
  (case k1 => k_is)
  (case a2 => k_is)
  (case l2 => k_is)
  (case c2 => k_is)
  (case k2 => k_is)
  (case a3 => k_is)
  (case l3 => k_is)
  (case c3 => k_is)
  (case k3 => k_is)
  (case a4 => k_is)
  (case l4 => k_is)
  (case c4 => k_is)
  (case k4 => k_is)
  (case a5 => k_is)
  (case i5 => k_is)
  (case l5 => k_is)
  (case c5 => k_is)
  (case k5 => k_is)
  (case a6 => k_is)
  (case i6 => k_is)
  (case l6 => k_is)
  (case c6 => k_is)
  (case k6 => k_is)
  (case a7 => k_is)
  (case i7 => k_is)
  (case l7 => k_is)
  (case c7 => k_is)
  (case k7 => k_is)
  (case a8 => k_is)
  (case i8 => k_is)
  (case l8 => k_is)
  (case c8 => k_is)
  (case k8 => k_is)
  (case a9 => k_is)
  (case i9 => k_is)
  (case l9 => k_is)
  (case c9 => k_is)
  (case k9 => k_is)
  (case a10 => k_is)
  (case i10 => k_is)
  (case l10 => k_is)
  (case c10 => k_is)
  (case k10 => k_is)
  (case a11 => k_is)
  (case i11 => k_is)
  (case l11 => k_is)
  (case c11 => k_is)
  (case k11 => k_is)
  (case a12 => k_is)
  (case i12 => k_is)
  (case l12 => k_is)
  (case c12 => k_is)
  (case k12 => k_is)
  (case a13 => k_is)
  (case i13 => k_is)
  (case l13 => k_is)
  (case c13 => k_is)
  (case k13 => k_is)
  (case a14 => k_is)
  (case i14 => k_is)
  (case l14 => k_is)
  (case c14 => k_is)
  (case k14 => k_is)
  (case a15 => k_is)
  (case i15 => k_is)
  (case l15 => k_is)
  (case c15 => k_is)
  (case k15 => k_is)
  (case a16 => k_is)
  (case i16 => k_is)
  (case l16 => k_is)
  (case c16 => k_is)
  (case k16 => k_is)
  (case a17 => k_is)
  (case i17 => k_is)
  (case l17 => k_is)
  (case c17 => k_is)
  (case k17 => k_is)
  (case a18 => k_is)
  (case i18 => k_is)
  (case l18 => k_is)
  (case c18 => k_is)
  (case k18 => k_is)
  (case a19 => k_is)
  (case i19 => k_is)
  (case l19 => k_is)
  (case c19 => k_is)
  (case k19 => k_is)
  (case a20 => k_is)
  (case i20 => k_is)
  (case l20 => k_is)
  (case c20 => k_is)
  (case k20 => k_is)
  (case a21 => k_is)
  (case i21 => k_is)
  (case l21 => k_is)
  (case c21 => k_is)
  (case k21 => k_is)
  (case a22 => k_is)
  (case i22 => k_is)
  (case l22 => k_is)
  (case c22 => k_is)
  (case k22 => k_is)
  (case a23 => k_is)
  (case i23 => k_is)
  (case l23 => k_is)
  (case c23 => k_is)
  (case k23 => k_is)
  (case a24 => k_is)
  (case i24 => k_is)
  (case l24 => k_is)
  (case c24 => k_is)
  (case k24 => k_is)
  (case a25 => k_is)
  (case i25 => k_is)
  (case l25 => k_is)
  (case c25 => k_is)
  (case k25 => k_is)
  (case a26 => k_is)
  (case i26 => k_is)
  (case l26 => k_is)
  (case c26 => k_is)
  (case k26 => k_is)
  (case a27 => k_is)
  (case i27 => k_is)
  (case l27 => k_is)
  (case c27 => k_is)
  (case k27 => k_is)
  (case a28 => k_is)
  (case i28 => k_is)
  (case l28 => k_is)
  (case c28 => k_is)
  (case k28 => k_is)
  (case a29 => k_is)
  (case l29 => k_is)
  (case c29 => k_is)
  (case k29 => k_is)
  (case a30 => k_is)
  (case l30 => k_is)
  (case c30 => k_is)
  (case k30 => k_is)
  (case a31 => k_is)
  (case l31 => k_is)
  (case c31 => k_is)
  (case k31 => k_is)
  (case a32 => k_is)
  (case l32 => k_is)
  (case c32 => k_is)
  (case k32 => k_is)
  (case a33 => k_is)
  (case l33 => k_is)
  (case c33 => k_is)
  (case k33 => k_is)
  (case a34 => k_is)
  (case l34 => k_is)
  (case c34 => k_is)
  (case k34 => k_is)
  (case a35 => k_is)
  (case l35 => k_is)
  (case c35 => k_is)
  (case k35 => k_is)
  (case a36 => k_is)
  (case l36 => k_is)
  (case c36 => k_is)
  (case k36 => k_is)
  (case a37 => k_is)
  (case l37 => k_is)
  (case c37 => k_is)
  (case k37 => k_is)
  (case a38 => k_is)
  (case l38 => k_is)
  (case c38 => k_is)
  (case k38 => k_is)
  (case z_tuple => k_is)
  (case z_max => k_is)
  (case z_dict => k_is)
  (case z_list => k_is)
  (case z_zip => k_is)
  (case z_sorted => k_is)
  (case z_len => k_is)
  (case z_enumerate => k_is)
  (case z_range => k_is)
  (case g_WRONG_IN_A_ROW => k_is)
  (case g_TICKS_LOCKED => k_is)
  (case g_KINDS_SHUT_TO_SET => k_is)
  (case q_KINDS_SHUT_TO_SET => k_is)
  (case g_KINDS_LEFT_BY => k_is)
  (case q_KINDS_LEFT_BY => k_is)
end
