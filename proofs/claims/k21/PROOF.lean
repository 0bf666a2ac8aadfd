import PyProof.Rows.All
import Wide.All
import OpenK.AllK
import Wide.FinOn
import Lean
import PyProof.EqAt
import PyProof.EqKinds
import PyProof.TupleCall
import PyProof.P3Statements
import KE.KSortTup
import PyProof.AttrMissHeap
import PySem.Challenge.RW_doorwatch_k21_fewest_and_apart
section
set_option Elab.async false
set_option linter.all false
set_option maxRecDepth 100000
/-! THE HAND LAYER, for ints, bools, texts, own classes, LISTS and tuples (index, slices, in, append, pop ..), calls, loops. Paste it whole ahead of your own text; what your proof does not reach may be deleted. -/
namespace L2
open PySem PySem.Spec PyProof.Rows

/-- a key: an int or a str -/
abbrev Key := Sum Int Str
def keyIs : Key → Value → Bool
  | .inl k, v => Value.isInt k v
  | .inr x, v => Value.isStrOf x v
def keyH (w : World) : Key → Int
  | .inl k => hashInt k
  | .inr x => hashStr w x
theorem keyIs_shape : ∀ {k : Key} {v : Value}, keyIs k v = true → (∃ i t, k = Sum.inl i ∧ v = Value.int i t) ∨ (∃ x t, k = Sum.inr x ∧ v = Value.str x t)
  | .inl i, v, h => by
    obtain ⟨t, e⟩ := Value.isInt_shape (k := i) (v := v) h
    exact .inl ⟨i, t, rfl, e⟩
  | .inr x, v, h => by
    obtain ⟨t, e⟩ := Value.isStrOf_shape (x := x) (v := v) h
    exact .inr ⟨x, t, rfl, e⟩
theorem key_ll (a b : Int) : decide ((Sum.inl a : Key) = Sum.inl b) = (a == b) := by
  by_cases e : a = b
  · subst e; simp
  · have h : ¬ (Sum.inl a : Key) = Sum.inl b := fun q => e (Sum.inl.inj q)
    rw [decide_eq_false h]
    exact (beq_eq_false_iff_ne.mpr e).symm
theorem key_rr (a b : Str) : decide ((Sum.inr a : Key) = Sum.inr b) = decide (a = b) := by
  by_cases e : a = b
  · subst e; simp
  · have h : ¬ (Sum.inr a : Key) = Sum.inr b := fun q => e (Sum.inr.inj q)
    rw [decide_eq_false h, decide_eq_false e]
theorem key_lr (a : Int) (b : Str) : decide ((Sum.inl a : Key) = Sum.inr b) = false := decide_eq_false (fun q => nomatch q)
theorem key_rl (a : Str) (b : Int) : decide ((Sum.inr a : Key) = Sum.inl b) = false := decide_eq_false (fun q => nomatch q)

def mixKind (prog : Program) (w : World) : PySem.KeyKind prog w Key where
  is := keyIs
  hash := keyH w
  inj := fun v a b ha hb => by
    rcases keyIs_shape ha with ⟨i, t, rfl, rfl⟩ | ⟨x, t, rfl, rfl⟩
    · rcases keyIs_shape hb with ⟨j, u, rfl, e⟩ | ⟨y, u, rfl, e⟩
      · injection e with e1 _; rw [e1]
      · exact nomatch e
    · rcases keyIs_shape hb with ⟨j, u, rfl, e⟩ | ⟨y, u, rfl, e⟩
      · exact nomatch e
      · injection e with e1 _; rw [e1]
  byValue := fun k v h => by
    rcases keyIs_shape h with ⟨i, t, rfl, rfl⟩ | ⟨x, t, rfl, rfl⟩ <;> rfl
  pyHash := fun hv h => by
    rcases keyIs_shape hv with ⟨i, t, rfl, rfl⟩ | ⟨x, t, rfl, rfl⟩
    · exact wpAny_pyHash_int h
    · exact wpAny_pyHash_str h
  eqBool := fun hu hv h => by
    rcases keyIs_shape hu with ⟨i, t, rfl, rfl⟩ | ⟨x, t, rfl, rfl⟩
    · rcases keyIs_shape hv with ⟨j, u, rfl, rfl⟩ | ⟨y, u, rfl, rfl⟩
      · rw [key_ll] at h; exact wpAny_eqBool_int h
      · rw [key_lr] at h; exact SeqAt.EqAt.int_str i t y u _ _ _ _ h
    · rcases keyIs_shape hv with ⟨j, u, rfl, rfl⟩ | ⟨y, u, rfl, rfl⟩
      · rw [key_rl] at h; exact SeqAt.EqAt.str_int x t j u _ _ _ _ h
      · rw [key_rr] at h; exact wpAny_eqBool_str h
  «strs» := fun k x t v h => by
    rcases keyIs_shape h with ⟨i, u, rfl, e⟩ | ⟨y, u, rfl, e⟩
    · exact nomatch e
    · injection e with e1 _
      subst e1
      cases v <;> rfl

end L2

namespace L2
open PySem PySem.Spec PyProof.Rows

/-- a value, without the heap -/
inductive V where
  | non | bl (b : Bool) | int (i : Int) | str (x : Str) | byt (b : Array UInt8) | flt (b : UInt64) | ref (a : Addr) | ty (n : String)
  deriving DecidableEq

def RelV : V → Value → Prop
  | .non, u => u = Value.none
  | .bl b, u => u = Value.bool b
  | .int i, u => ∃ t, u = Value.int i t
  | .str x, u => ∃ t, u = Value.str x t
  | .byt b, u => ∃ t, u = Value.bytes b t
  | .flt b, u => ∃ t, u = Value.float b t
  | .ref a, u => u = Value.ref a
  | .ty n, u => u = Value.type n

abbrev Vals : List V → List Value → Prop := Paired RelV
theorem Vals.length {xs : List V} {us : List Value} (r : Vals xs us) : xs.length = us.length := Paired.length r
theorem Vals.get : ∀ {xs : List V} {us : List Value} {i : Nat} {x : V}, Vals xs us → xs[i]? = some x → ∃ u, us[i]? = some u ∧ RelV x u
  | _, _, _, _, .nil, e => by simp at e
  | _, _, 0, _, .cons r _, e => by simp at e; subst e; exact ⟨_, rfl, r⟩
  | _, _, i + 1, x, .cons _ t, e => by
    obtain ⟨u, h1, h2⟩ := Vals.get (i := i) (x := x) t (by simpa using e)
    exact ⟨u, by simpa using h1, h2⟩
theorem Vals.set {x : V} {u : Value} (r : RelV x u) : ∀ {xs : List V} {us : List Value} (i : Nat), Vals xs us → Vals (xs.set i x) (us.set i u)
  | _, _, _, .nil => .nil
  | _, _, 0, .cons _ t => .cons r t
  | _, _, i + 1, .cons q t => .cons q (Vals.set r i t)
theorem Vals.append : ∀ {xs ys : List V} {us ws : List Value}, Vals xs us → Vals ys ws → Vals (xs ++ ys) (us ++ ws)
  | _, _, _, _, .nil, s => s
  | _, _, _, _, .cons r t, s => .cons r (Vals.append t s)
theorem Vals.take : ∀ {xs : List V} {us : List Value} (n : Nat), Vals xs us → Vals (xs.take n) (us.take n)
  | _, _, 0, _ => .nil
  | _, _, _ + 1, .nil => .nil
  | _, _, n + 1, .cons r t => .cons r (Vals.take n t)
theorem Vals.drop : ∀ {xs : List V} {us : List Value} (n : Nat), Vals xs us → Vals (xs.drop n) (us.drop n)
  | _, _, 0, r => r
  | _, _, _ + 1, .nil => .nil
  | _, _, n + 1, .cons _ t => Vals.drop n t
def RelO : Option V → Option Value → Prop
  | some v, some u => RelV v u
  | none, none => True
  | _, _ => False
def KV {κ : Type} : List (κ × V) → List (κ × Value) → Prop := Paired fun (p : κ × V) (q : κ × Value) => p.1 = q.1 ∧ RelV p.2 q.2

/-- a key of a dict (00_mix): an int or a text -/
def kV : Key → V
  | .inl i => .int i
  | .inr x => .str x

/-- what stands at a tracked address -/
inductive HO where
  /-- a list -/
  | lst (xs : List V)
  /-- a tuple (never changes) -/
  | tup (xs : List V)
  /-- a dict whose keys are ints and texts; one whose keys are tuples of ints and texts (the empty one is both) -/
  | dK (kvs : List (Key × V)) | dT (kvs : List (List Key × V))
  /-- a set of ints: its members, its size -/
  | set (S : Int → Bool) (n : Nat)
  /-- an instance of the class at C, its dict at dx, its attributes -/
  | ins (C dx : Addr) (fs : List (Str × V))
  /-- the dict of the instance at x -/
  | own (x : Addr)
  /-- the dict of an exception -/
  | xd (fs : List (Str × V))
  /-- a bound method, f of x -/
  | met (f x : Addr)
  /-- a range object lo, lo + 1, .. below hi -/
  | rng (lo hi : Int)
  /-- a thing that is known to the object (the script; a dict while a loop walks it): read, never written while it is so -/
  | frz (o : Obj) (u : HO)
  /-- a code object's table -/
  | tbl (ps : Array Value)
  /-- any other thing, by what is true of its one object (a def of one's own: SetO a S n := HO.ext fun h => ..) -/
  | ext (φ : Heap → Prop)

abbrev Hp := Addr → Option HO
def upd (H : Hp) (a : Addr) (o : HO) : Hp := fun b => if b = a then some o else H b
theorem upd_same {H : Hp} {a : Addr} {o : HO} : upd H a o a = some o := by unfold upd; rw [if_pos rfl]
theorem upd_ne {H : Hp} {a b : Addr} {o : HO} (h : b ≠ a) : upd H a o b = H b := by unfold upd; rw [if_neg h]
theorem ne_of_none {H : Hp} {a b : Addr} {o : HO} (h : H a = some o) (h' : H b = none) : a ≠ b := by
  intro e; subst e; rw [h] at h'; cases h'

section
variable (P : Program) (w : World)
def ObjOk (H : Hp) (h : Heap) (a : Addr) : HO → Prop
  | .lst xs => xs.length ≤ sizeLine ∧ ∃ (its : List Value) (n : Nat), Vals xs its ∧ h.get? a = some { cls := .type "list", data := .seq its.toArray n }
  | .tup xs => xs.length ≤ sizeLine ∧ ∃ its : List Value, Vals xs its ∧ IsTup h a its.toArray
  | .dK kvs => kvs.length ≤ sizeLine ∧ (a == sysModules) = false ∧ ∃ vs, KV kvs vs ∧ h.DictOf (mixKind P w) a vs
  | .dT kvs => kvs.length ≤ sizeLine ∧ (a == sysModules) = false ∧ ∃ xs : List (List Key × Addr × Value),
      Paired (fun (p : List Key × V) (q : List Key × Addr × Value) => p.1 = q.1 ∧ H q.2.1 = some (.tup (p.1.map kV)) ∧ RelV p.2 q.2.2) kvs xs ∧
      ∃ o es ep, h.get? a = some o ∧ o.ExactDict ∧ o.data = .dict es ep ∧ es.toList = xs.map (entryOfKey (tupleKind (mixKind P w))) ∧ (xs.map (·.1)).Nodup
  | .set S n => h.SetOf (intKind P w) a S n
  | .ins C dx fs => H dx = some (.own a) ∧ fs.length ≤ 1000 ∧ dx ≠ a ∧ h.get? a = some (PySem.W.instObj C dx) ∧
      ∃ mA, h.Ns1 dx mA ∧ (∀ f, RelO (fs.lookup f) (mA f)) ∧ PySem.Within mA (fs.map (·.1))
  | .own _ => ∃ o, h.get? a = some o
  | .xd fs => ∃ mA, h.Ns1 a mA ∧ ∀ f, RelO (fs.lookup f) (mA f)
  | .rng lo hi => ∃ t u v, h.get? a = some { cls := .type "range", data := .fields #[.int lo t, .int hi u, .int 1 v] }
  | .frz o u => h.get? a = some o ∧ ObjOk H h a u
  | .tbl ps => h.get? a = some { cls := .none, data := .fields ps }
  | .met f x => h.get? a = some (PySem.W.methodObj (.ref f) (.ref x))
  | .ext φ => φ h ∧ (∃ o, h.get? a = some o) ∧ ∀ h1 h2 : Heap, φ h1 → (∀ o, h1.get? a = some o → h2.get? a = some o) → φ h2
/-- the abstract heap is held -/
def HOk (H : Hp) (h : Heap) : Prop := ∀ a o, H a = some o → ObjOk P w H h a o
end

section
variable {P : Program} {w : World} {H H' : Hp} {h h' : Heap} {a : Addr} {o : HO}
theorem ObjOk.lt (x : ObjOk P w H h a o) : a < h.objs.size := by
  cases o with
  | lst xs => obtain ⟨_, _, _, _, e⟩ := x; exact Heap.lt_size e
  | tup xs => obtain ⟨_, _, _, p⟩ := x; exact p.lt
  | dK kvs => obtain ⟨_, _, _, _, o, _, _, e, _⟩ := x; exact Heap.lt_size e
  | dT kvs => obtain ⟨_, _, _, _, o, _, _, e, _⟩ := x; exact Heap.lt_size e
  | set S n => obtain ⟨o, _, _, _, e, _⟩ := x; exact Heap.lt_size e
  | ins C dx fs => obtain ⟨_, _, _, e, _⟩ := x; exact Heap.lt_size e
  | own y => obtain ⟨_, e⟩ := x; exact Heap.lt_size e
  | xd fs => obtain ⟨_, ⟨_, _, _, e, _⟩, _⟩ := x; exact Heap.lt_size e
  | rng lo hi => obtain ⟨_, _, _, e⟩ := x; exact Heap.lt_size e
  | frz ob u => obtain ⟨e, _⟩ := x; exact Heap.lt_size e
  | tbl ps => exact Heap.lt_size (show h.get? a = some _ from x)
  | met f y => exact Heap.lt_size (show h.get? a = some _ from x)
  | ext φ => obtain ⟨_, ⟨_, e⟩, _⟩ := x; exact Heap.lt_size e
theorem Paired.mapP {α β : Type} {F G : α → β → Prop} : ∀ {l₁ : List α} {l₂ : List β}, Paired F l₁ l₂ → (∀ a b, F a b → G a b) → Paired G l₁ l₂
  | _, _, .nil, _ => .nil
  | _, _, .cons r t, f => .cons (f _ _ r) (Paired.mapP t f)
/-- what an object's description leans on: its own object, its own dict, the tuples -/
theorem ObjOk.stay (x : ObjOk P w H h a o) (k : ∀ b u, (b = a ∨ H b = some (.own a)) → h.get? b = some u → h'.get? b = some u)
    (ho : ∀ b, H b = some (.own a) → H' b = some (.own a)) (ht : ∀ b xs, H b = some (.tup xs) → H' b = some (.tup xs)) : ObjOk P w H' h' a o := by
  induction o with
  | lst xs => obtain ⟨z, its, n, r, e⟩ := x; exact ⟨z, its, n, r, k _ _ (.inl rfl) e⟩
  | tup xs => obtain ⟨z, its, r, ob, e, c⟩ := x; exact ⟨z, its, r, ob, k _ _ (.inl rfl) e, c⟩
  | dK kvs => obtain ⟨z, y, vs, r, ob, es, ep, e, c⟩ := x; exact ⟨z, y, vs, r, ob, es, ep, k _ _ (.inl rfl) e, c⟩
  | dT kvs =>
    obtain ⟨z, y, xs, r, ob, es, ep, e, c⟩ := x
    exact ⟨z, y, xs, Paired.mapP r fun p q z => ⟨z.1, ht _ _ z.2.1, z.2.2⟩, ob, es, ep, k _ _ (.inl rfl) e, c⟩
  | set S n => obtain ⟨ob, es, ep, t, e, c⟩ := x; exact ⟨ob, es, ep, t, k _ _ (.inl rfl) e, c⟩
  | ins C dx fs =>
    obtain ⟨d, z, ne, e, mA, ⟨od, es, ep, e2, c⟩, r⟩ := x
    exact ⟨ho _ d, z, ne, k _ _ (.inl rfl) e, mA, ⟨od, es, ep, k _ _ (.inr d) e2, c⟩, r⟩
  | own y => obtain ⟨ob, e⟩ := x; exact ⟨ob, k _ _ (.inl rfl) e⟩
  | xd fs => obtain ⟨mA, ⟨od, es, ep, e, c⟩, r⟩ := x; exact ⟨mA, ⟨od, es, ep, k _ _ (.inl rfl) e, c⟩, r⟩
  | rng lo hi => obtain ⟨t, u, v, e⟩ := x; exact ⟨t, u, v, k _ _ (.inl rfl) e⟩
  | frz ob u ih => obtain ⟨e, q⟩ := x; exact ⟨k _ _ (.inl rfl) e, ih q⟩
  | tbl ps =>
    have e : h.get? a = some { cls := .none, data := .fields ps } := x
    show h'.get? a = some { cls := .none, data := .fields ps }
    exact k a _ (.inl rfl) e
  | met f y =>
    have e : h.get? a = some (PySem.W.methodObj (.ref f) (.ref y)) := x
    show h'.get? a = some (PySem.W.methodObj (.ref f) (.ref y))
    exact k a _ (.inl rfl) e
  | ext φ => obtain ⟨p, ⟨o, e⟩, st⟩ := x; exact ⟨st _ _ p fun o q => k _ _ (.inl rfl) q, ⟨o, k _ _ (.inl rfl) e⟩, st⟩
theorem HOk.lt (x : HOk P w H h) (e : H a = some o) : a < h.objs.size := (x a o e).lt
theorem HOk.fresh (x : HOk P w H h) (e : h.objs.size ≤ a) : H a = none := by
  cases q : H a with
  | none => rfl
  | some u => exact absurd (Nat.lt_of_lt_of_le (x.lt q) e) (Nat.lt_irrefl _)
/-- every object of the heap is kept -/
theorem HOk.kept (x : HOk P w H h) (k : ∀ b u, h.get? b = some u → h'.get? b = some u) : HOk P w H h' := fun a o e =>
  (x a o e).stay (fun b u _ q => k b u q) (fun _ q => q) fun _ _ q => q
/-- a new object is laid and tracked -/
theorem HOk.laid (x : HOk P w H h) (k : ∀ b u, h.get? b = some u → h'.get? b = some u) (hp : h.objs.size ≤ a) (new : ObjOk P w (upd H a o) h' a o) : HOk P w (upd H a o) h' := fun b u e => by
  have hn := x.fresh hp
  by_cases hb : b = a
  · subst hb; rw [upd_same] at e; cases e; exact new
  · rw [upd_ne hb] at e
    exact (x b u e).stay (fun c v _ q => k c v q) (fun c q => by rw [upd_ne (ne_of_none q hn)]; exact q) fun c xs q => by rw [upd_ne (ne_of_none q hn)]; exact q
end

/-- what may be read as u: it is u, or a known u -/
def Rd (H : Hp) (a : Addr) (u : HO) : Prop := H a = some u ∨ ∃ o, H a = some (.frz o u)
theorem Rd.of {H : Hp} {a : Addr} {u : HO} (h : H a = some u) : Rd H a u := .inl h
theorem Rd.ok {P : Program} {w : World} {H : Hp} {h : Heap} {a : Addr} {u : HO} (r : Rd H a u) (x : HOk P w H h) : ObjOk P w H h a u := by
  rcases r with r | ⟨o, r⟩
  · exact x a u r
  · obtain ⟨_, q⟩ := x a _ r
    exact q
/-- what may be written -/
def Mut : Option HO → Prop
  | some (.lst _) => True
  | some (.dK _) => True
  | some (.dT _) => True
  | some (.set _ _) => True
  | some (.ins _ _ _) => True
  | some (.ext _) => True
  | _ => False
section
variable {P : Program} {w : World} {H : Hp} {h h' : Heap} {x e : Addr} {o' : HO}
/-- the object at e is changed: x itself, or the dict of the instance x -/
theorem HOk.write (ok : HOk P w H h) (mu : Mut (H x)) (he : e = x ∨ H e = some (.own x)) (k : ∀ b u, b ≠ e → h.get? b = some u → h'.get? b = some u) (heo : ∃ u, h'.get? e = some u)
    (new : ObjOk P w (upd H x o') h' x o') : HOk P w (upd H x o') h' := fun b u q => by
  have nown : ∀ c y, H c = some (.own y) → c ≠ x := fun c y r z => by subst z; rw [r] at mu; exact mu
  have ntup : ∀ c xs, H c = some (.tup xs) → c ≠ x := fun c xs r z => by subst z; rw [r] at mu; exact mu
  by_cases hb : b = x
  · subst hb; rw [upd_same] at q; cases q; exact new
  · rw [upd_ne hb] at q
    by_cases hbe : b = e
    · have q' : H b = some (.own x) := by
        rcases he with z | z
        · exact absurd (hbe.trans z) hb
        · rw [hbe]; exact z
      rw [q] at q'; cases q'
      obtain ⟨v, hv⟩ := heo
      exact ⟨v, by rw [hbe]; exact hv⟩
    · refine (ok b u q).stay (fun c v hc r => k c v ?_ r) (fun c r => by rw [upd_ne (nown c b r)]; exact r) fun c xs r => by rw [upd_ne (ntup c xs r)]; exact r
      rcases hc with rfl | hc
      · exact hbe
      · rintro rfl
        rcases he with z | z
        · exact nown c b hc z
        · rw [hc] at z; cases z; exact hb rfl
end

/-! ### kept unless tracked; of the frames at fs (the callers') the slots may change (an exception that passes writes there); of the records at ex (iterators) nothing is said -/
structure Un (fs ex : List Addr) (H H' : Hp) (h h' : Heap) : Prop where
  keep : ∀ b o, h.get? b = some o → H b = none → b ∉ fs → b ∉ ex → h'.get? b = some o
  slot : ∀ b o, h.get? b = some o → H b = none → b ∈ fs → b ∉ ex → ∃ sl, h'.get? b = some { o with slots := sl }
  free : ∀ b o, h.get? b = some o → H b = none → b ∉ ex → H' b = none
  there : ∀ b o, h.get? b = some o → b ∉ ex → ∃ o', h'.get? b = some o'
  tups : ∀ b xs, H b = some (.tup xs) → H' b = some (.tup xs)
  frzs : ∀ b o u, H b = some (.frz o u) → H' b = some (.frz o u)
  tbls : ∀ b ps, H b = some (.tbl ps) → ∃ more, H' b = some (.tbl (ps ++ more))
section
variable {fs fs' ex ex' : List Addr} {H H1 H2 : Hp} {h h1 h2 h' : Heap} {a x e : Addr} {o : HO}
theorem Un.any (u : Un fs ex H H1 h h1) {b : Addr} {ob : Obj} (q : h.get? b = some ob) (n : H b = none) (hx : b ∉ ex) : ∃ sl, h1.get? b = some { ob with slots := sl } := by
  by_cases hb : b ∈ fs
  · exact u.slot b ob q n hb hx
  · exact ⟨ob.slots, u.keep b ob q n hb hx⟩
theorem Un.trans (a : Un fs ex H H1 h h1) (b : Un fs ex H1 H2 h1 h2) : Un fs ex H H2 h h2 where
  keep := fun c ob q n hc hx => b.keep c ob (a.keep c ob q n hc hx) (a.free c ob q n hx) hc hx
  slot := fun c ob q n hc hx => by
    obtain ⟨sl, e1⟩ := a.slot c ob q n hc hx
    obtain ⟨sl', e2⟩ := b.slot c _ e1 (a.free c ob q n hx) hc hx
    exact ⟨sl', e2⟩
  free := fun c ob q n hx => by
    obtain ⟨o', e1⟩ := a.there c ob q hx
    exact b.free c o' e1 (a.free c ob q n hx) hx
  there := fun c ob q hx => by
    obtain ⟨o', e1⟩ := a.there c ob q hx
    exact b.there c o' e1 hx
  tups := fun c xs q => b.tups c xs (a.tups c xs q)
  frzs := fun c ob xs q => b.frzs c ob xs (a.frzs c ob xs q)
  tbls := fun c ps q => by
    obtain ⟨m1, e1⟩ := a.tbls c ps q
    obtain ⟨m2, e2⟩ := b.tbls c _ e1
    exact ⟨m1 ++ m2, by rw [e2, Array.append_assoc]⟩
theorem Un.kept (k : ∀ b u, h.get? b = some u → h'.get? b = some u) : Un fs ex H H h h' :=
  ⟨fun b ob q _ _ _ => k b ob q, fun b ob q _ _ _ => ⟨ob.slots, k b ob q⟩, fun _ _ _ n _ => n, fun b ob q _ => ⟨ob, k b ob q⟩, fun _ _ q => q, fun _ _ _ q => q, fun _ ps q => ⟨#[], by rw [q]; simp⟩⟩
theorem Un.refl : Un fs ex H H h h := Un.kept fun _ _ q => q
theorem Un.laid (k : ∀ b u, h.get? b = some u → h'.get? b = some u) (hp : h.objs.size ≤ a) (hn : H a = none) : Un fs ex H (upd H a o) h h' where
  keep := fun b u q _ _ _ => k b u q
  slot := fun b u q _ _ _ => ⟨u.slots, k b u q⟩
  free := fun b u q n _ => by rw [upd_ne (Nat.ne_of_lt (Nat.lt_of_lt_of_le (Heap.lt_size q) hp))]; exact n
  there := fun b u q _ => ⟨u, k b u q⟩
  tups := fun b xs q => by rw [upd_ne (ne_of_none q hn)]; exact q
  frzs := fun b u xs q => by rw [upd_ne (ne_of_none q hn)]; exact q
  tbls := fun b ps q => ⟨#[], by rw [upd_ne (ne_of_none q hn), q]; simp⟩
theorem Un.write (mu : Mut (H x)) (he : e = x ∨ H e = some (.own x)) (k : ∀ b u, b ≠ e → h.get? b = some u → h'.get? b = some u) (heo : ∃ u, h'.get? e = some u) : Un fs ex H (upd H x o) h h' := by
  have hx : ∀ b, H b = none → b ≠ x := fun b n z => by subst z; rw [n] at mu; exact mu
  have hb : ∀ b, H b = none → b ≠ e := fun b n z => by
    subst z
    rcases he with r | r
    · exact hx b n r
    · rw [n] at r; cases r
  have hm : ∀ b u, H b = some u → ¬ Mut (some u) → b ≠ x := fun b u q nm z => by subst z; rw [q] at mu; exact nm mu
  refine ⟨fun b u q n _ _ => k b u (hb b n) q, fun b u q n _ _ => ⟨u.slots, k b u (hb b n) q⟩, fun b u q n _ => by rw [upd_ne (hx b n)]; exact n, fun b u q _ => ?_,
    fun b xs q => by rw [upd_ne (hm b _ q fun z => z)]; exact q, fun b u xs q => by rw [upd_ne (hm b _ q fun z => z)]; exact q, fun b ps q => ⟨#[], by rw [upd_ne (hm b _ q fun z => z), q]; simp⟩⟩
  by_cases hbe : b = e
  · subst hbe; exact heo
  · exact ⟨u, k b u hbe q⟩
theorem Un.mono (u : Un fs ex H H1 h h1) (hs : ∀ b ∈ fs, b ∈ fs') (hx : ∀ b ∈ ex, b ∈ ex') : Un fs' ex' H H1 h h1 :=
  ⟨fun b ob q n hb he => u.keep b ob q n (fun z => hb (hs b z)) fun z => he (hx b z), fun _ _ q n _ he => u.any q n fun z => he (hx _ z), fun b ob q n he => u.free b ob q n fun z => he (hx b z), fun b ob q he => u.there b ob q fun z => he (hx b z), u.tups, u.frzs, u.tbls⟩
end

/-! ### the heap without what is tracked -/
def trk (h : Heap) (H : Hp) : List Addr := (List.range h.objs.size).filter fun a => (H a).isSome
def hidT (h : Heap) (H : Hp) : Heap := PySem.W.hideAll h (trk h H)
theorem hidT_size (h : Heap) (H : Hp) : (hidT h H).objs.size = h.objs.size := PySem.W.hideAll_size _ _
theorem hidT_get {h : Heap} {H : Hp} {b : Addr} {o : Obj} (e : h.get? b = some o) (n : H b = none) : (hidT h H).get? b = some o :=
  PySem.W.hideAll_get _ e fun hm => by
    have q : (H b).isSome = true := (List.mem_filter.mp hm).2
    rw [n] at q; simp at q
theorem of_hidT {h : Heap} {H : Hp} {b : Addr} {o : Obj} (e : (hidT h H).get? b = some o) : h.get? b = some o ∧ H b = none := by
  have e' : h.get? b = some o := PySem.W.of_hideAll (trk h H) e
  refine ⟨e', ?_⟩
  cases q : H b with
  | none => rfl
  | some x =>
    have hm : b ∈ trk h H := List.mem_filter.mpr ⟨List.mem_range.mpr (Heap.lt_size e'), by simp [q]⟩
    have z : (hidT h H).get? b = none := PySem.W.hideAll_none (trk h H) hm
    rw [z] at e; cases e

/-! ### OpenK's ledger, filled with every new object but one -/
def allNews (g h : Heap) (L : Addr) : List (Addr × Obj) := (List.range h.objs.size).filterMap fun a => if a = L ∨ (g.get? a).isSome = true then none else (h.get? a).map fun o => (a, o)
def rest (g h : Heap) (L d : Addr) : List (Addr × Obj) := (allNews g h L).filter fun p => decide (p.1 ≠ d)
end L2

namespace L2
open PySem PySem.Spec PyProof.Rows

/-- the module's facts, over the base: the heap at the law's entry without what is tracked there -/
structure Mod (K : PySem.W.Frag) (mg : Str → Option Value) (base : Heap) : Prop where
  kin : K.In base
  glob : base.Ns mainGlobals mg
  blt : ∃ mb, base.Ns builtinsNs mb ∧ ∀ x : Str, x ≠ "__name__" → mb x = bootBuiltins x
  nolimit : base.NoLimit

/-- the context: a def's body (or a comprehension's block) running. base: fixed through the whole law; s₀, H₀: the entry; outer: the frames whose slots others may change (a def's callers); stack: all frames that run;
   ex: iterators that were made ahead of the entry and are walked here (a comprehension's); fn: the names whose cells were made at the entry (a def: all; a comprehension's block: its own); calm: not within an except suite; pn: pins that every state bears; xe: what is wanted of an exception that leaves the code -/
structure Cx where
  prog : Program
  w : World
  K : PySem.W.Frag
  mg : Str → Option Value
  base : Heap
  A : Around
  N : List Str
  s₀ : Shared
  H₀ : Hp
  env : Env
  outer : List Env
  stack : List Env
  ex : List Addr
  fn : Str → Bool
  calm : Bool
  pn : List (Addr × Obj)
  xe : Value → Shared → Prop
/-- the callers' frames -/
def frs (l : List Env) : List Addr := l.filterMap (·.frame)
abbrev Cx.fs (X : Cx) : List Addr := frs X.outer

def Vis (sc : Scope) (x : Str) : Prop := sc.names.lookup x = some .local ∨ sc.names.lookup x = some .cell ∨ sc.names.lookup x = some .free
def Loc (sc : Scope) (x : Str) : Prop := sc.names.lookup x = some .local ∨ sc.names.lookup x = some .cell
def Look (env : Env) (h : Heap) (m : Str → Option Value) (x : Str) (u : Value) : Prop :=
  (env.kindOf x = some .local ∧ m x = some u) ∨ ((env.kindOf x = some .cell ∨ env.kindOf x = some .free) ∧ ∃ c, env.cells.lookup x = some c ∧ h.IsCell c (some u))

structure Cx.Ok (X : Cx) : Prop where
  mod : Mod X.K X.mg X.base
  kind : X.env.scope.kind = .function
  glob : X.env.globals = mainGlobals
  blt : X.env.builtins = builtinsNs
  above : X.s₀.heap.objs.size ≤ X.env.locals
  inj : ∀ x y c, X.env.cells.lookup x = some c → X.env.cells.lookup y = some c → x = y
  has : ∀ x, (X.env.kindOf x = some .cell ∨ X.env.kindOf x = some .free) → ∃ c, X.env.cells.lookup x = some c
  cab : ∀ x c, X.fn x = true → X.env.cells.lookup x = some c → X.s₀.heap.objs.size ≤ c
  hd : X.calm = true → X.A.handled = none
  frames : X.A.frames = some X.stack
  stk : X.stack = X.outer ∨ (X.stack = X.env :: X.outer ∧ X.env.frame = some X.env.locals)
  exf : ∀ b ∈ X.ex, b ≠ X.env.locals ∧ ∀ x c, X.env.cells.lookup x = some c → c ≠ b
  bs : ∀ b o, X.base.get? b = some o → X.s₀.heap.get? b = some o ∧ X.H₀ b = none
  bsz : X.base.objs.size ≤ X.s₀.heap.objs.size
  noex : ∀ b o, X.base.get? b = some o → b ∉ X.ex
  exfs : ∀ b ∈ X.ex, b ∉ X.fs
  funs : X.s₀.heap.FunFrames X.base X.outer
  frf : ∀ b ∈ X.fs, X.H₀ b = none

structure Inv (X : Cx) (pins : List (Addr × Obj)) (σ : List (Option V)) (H : Hp) (s : Shared) : Prop where
  ok : X.Ok
  os : s.os = X.s₀.os
  bare : AllBare s.gens
  base : Un X.fs X.ex X.H₀ H X.s₀.heap s.heap
  loc : ∃ m, s.heap.Ns X.env.locals m ∧ ∀ (i : Nat) (x : Str) (v : V), X.N[i]? = some x → σ[i]? = some (some v) → Vis X.env.scope x → ∃ u, RelV v u ∧ Look X.env s.heap m x u
  cell : ∀ x c, X.env.cells.lookup x = some c → ∃ v, s.heap.IsCell c v
  free : H X.env.locals = none
  freeC : ∀ x c, X.env.cells.lookup x = some c → H c = none
  pin : ∀ p ∈ X.pn ++ pins, s.heap.get? p.1 = some p.2 ∧ H p.1 = none ∧ p.1 ≠ X.env.locals ∧ p.1 ∉ X.fs ∧ ∀ v, p.2.data ≠ .cell v
  hok : HOk X.prog X.w H s.heap
  len : σ.length = X.N.length

section
variable {X : Cx} {pins : List (Addr × Obj)} {σ : List (Option V)} {H H' : Hp} {s : Shared} {h' : Heap}

theorem Cx.Ok.nofr (ok : X.Ok) {b : Addr} {o : Obj} (e : X.base.get? b = some o) : b ∉ X.fs := fun hb => by
  have := (ok.funs.mem hb).1
  rw [e] at this; cases this
theorem Inv.bs (I : Inv X pins σ H s) : ∀ b o, X.base.get? b = some o → s.heap.get? b = some o ∧ H b = none := fun b o e =>
  ⟨I.base.keep b o (I.ok.bs b o e).1 (I.ok.bs b o e).2 (I.ok.nofr e) (I.ok.noex b o e), I.base.free b o (I.ok.bs b o e).1 (I.ok.bs b o e).2 (I.ok.noex b o e)⟩
theorem Inv.bk (I : Inv X pins σ H s) : ∀ b o, X.base.get? b = some o → s.heap.get? b = some o := fun b o e => (I.bs b o e).1
theorem Inv.mod (I : Inv X pins σ H s) : Mod X.K X.mg X.base := I.ok.mod
theorem Inv.kIn (I : Inv X pins σ H s) : X.K.In s.heap := I.ok.mod.kin.keeps I.bk
theorem Inv.nolimit (I : Inv X pins σ H s) : s.heap.NoLimit := I.ok.mod.nolimit.keeps I.bk
/-- the frame over the base: for OpenK's rules (K.In X.base is I.mod.kin) -/
theorem Inv.fr (I : Inv X pins σ H s) : ∃ m, Fr X.base X.env.locals s.heap m :=
  let ⟨m, hn, _⟩ := I.loc
  ⟨m, hn, I.bk, Nat.le_trans I.ok.bsz I.ok.above⟩
theorem Inv.lt (I : Inv X pins σ H s) : X.env.locals < s.heap.objs.size := let ⟨_, hn, _⟩ := I.loc; hn.lt
theorem Inv.sz (I : Inv X pins σ H s) : X.s₀.heap.objs.size ≤ s.heap.objs.size := Nat.le_trans I.ok.above (Nat.le_of_lt I.lt)
theorem Inv.nofs (I : Inv X pins σ H s) {a : Addr} (h : s.heap.objs.size ≤ a) : a ∉ X.fs := fun hb => by
  obtain ⟨_, o, ho, _⟩ := I.ok.funs.mem hb
  exact absurd (Nat.lt_of_lt_of_le (Heap.lt_size ho) (Nat.le_trans I.sz h)) (Nat.lt_irrefl _)
theorem Inv.cne (I : Inv X pins σ H s) : ∀ x c, X.env.cells.lookup x = some c → c ≠ X.env.locals := fun x c e z => by
  obtain ⟨v, o, ho, hd⟩ := I.cell x c e
  obtain ⟨m, ⟨o', es, ep, ho', hd', _⟩, _⟩ := I.loc
  rw [z, ho'] at ho; cases ho; rw [hd'] at hd; cases hd
theorem Inv.funs (I : Inv X pins σ H s) : s.heap.FunFrames X.base X.outer := by
  have all : ∀ (l : List Env), (∀ b ∈ frs l, b ∈ X.fs) → X.s₀.heap.FunFrames X.base l → s.heap.FunFrames X.base l := by
    intro l
    induction l with
    | nil => intro _ _; trivial
    | cons env r ih =>
      intro hs hl
      obtain ⟨hk, ⟨L, o, hf, hn, ho, hd⟩, hr⟩ := hl
      have hL : L ∈ X.fs := hs L (by unfold frs; rw [List.filterMap_cons, hf]; exact List.mem_cons_self)
      obtain ⟨sl, e⟩ := I.base.slot L o ho (I.ok.frf L hL) hL fun z => I.ok.exfs L z hL
      exact ⟨hk, ⟨L, _, hf, hn, e, hd⟩, ih (fun b hb => hs b (by unfold frs; rw [List.filterMap_cons, hf]; exact List.mem_cons_of_mem _ hb)) hr⟩
  exact all X.outer (fun _ hb => hb) I.ok.funs

/-- the frames that run, for a call -/
theorem Inv.stack (I : Inv X pins σ H s) : s.heap.FunFrames X.base X.stack := by
  rcases I.ok.stk with e | ⟨e, hf⟩
  · rw [e]; exact I.funs
  · rw [e]
    obtain ⟨m, hn, _⟩ := I.loc
    refine .cons (by rw [I.ok.kind]; decide) hf hn ?_ I.funs
    exact Heap.get?_none_of_le (Nat.le_trans I.ok.bsz I.ok.above)
theorem Inv.stkSub (I : Inv X pins σ H s) : ∀ b ∈ frs X.stack, b ∈ X.env.locals :: X.fs := fun b hb => by
  rcases I.ok.stk with e | ⟨e, hf⟩
  · rw [e] at hb; exact List.mem_cons_of_mem _ hb
  · rw [e] at hb
    unfold frs at hb
    rw [List.filterMap_cons, hf] at hb
    exact hb
theorem Inv.stkFree (I : Inv X pins σ H s) : ∀ b ∈ frs X.stack, H b = none := fun b hb => by
  rcases List.mem_cons.mp (I.stkSub b hb) with e | hb
  · rw [e]; exact I.free
  · obtain ⟨_, o, ho, _⟩ := I.ok.funs.mem hb
    exact I.base.free b o ho (I.ok.frf b hb) fun z => I.ok.exfs b z hb

/-- THE STEP: the untracked objects but the frame and the records at ch are kept (the callers' frames up to slots), the frame's map is kept, the new abstract heap is held -/
theorem Inv.step {g' : Array GenState} {t' : Nat} {d' : Drawn} {ch : List Addr} (I : Inv X pins σ H s)
    (hch : ∀ b ∈ ch, (b ∈ X.ex ∨ X.s₀.heap.objs.size ≤ b) ∧ b ≠ X.env.locals ∧ (∀ x c, X.env.cells.lookup x = some c → c ≠ b) ∧ ∀ p ∈ X.pn ++ pins, p.1 ≠ b)
    (keep : ∀ b o, b ≠ X.env.locals → b ∉ X.fs → b ∉ ch → s.heap.get? b = some o → H b = none → h'.get? b = some o)
    (slot : ∀ b o, b ≠ X.env.locals → b ∈ X.fs → b ∉ ch → s.heap.get? b = some o → H b = none → ∃ sl, h'.get? b = some { o with slots := sl }) (free : ∀ b o, b ∉ ch → s.heap.get? b = some o → H b = none → H' b = none)
    (there : ∀ b o, b ∉ ch → s.heap.get? b = some o → ∃ o', h'.get? b = some o')
    (tups : ∀ b xs, H b = some (.tup xs) → H' b = some (.tup xs)) (frzs : ∀ b o u, H b = some (.frz o u) → H' b = some (.frz o u)) (tbls : ∀ b ps, H b = some (.tbl ps) → ∃ more, H' b = some (.tbl (ps ++ more)))
    (ns : ∀ m, s.heap.Ns X.env.locals m → h'.Ns X.env.locals m) (hok : HOk X.prog X.w H' h') (hg : AllBare g') :
    Inv X pins σ H' { s with heap := h', gens := g', drawn := d', toks := t' } := by
  have neL : ∀ b o, X.s₀.heap.get? b = some o → b ≠ X.env.locals := fun b o e => Nat.ne_of_lt (Nat.lt_of_lt_of_le (Heap.lt_size e) I.ok.above)
  have neC : ∀ b o, X.s₀.heap.get? b = some o → b ∉ X.ex → b ∉ ch := fun b o e hx hb => by
    rcases (hch b hb).1 with z | z
    · exact hx z
    · exact absurd (Nat.lt_of_lt_of_le (Heap.lt_size e) z) (Nat.lt_irrefl _)
  have cellK : ∀ x c, X.env.cells.lookup x = some c → ∀ v, s.heap.IsCell c v → h'.IsCell c v := fun x c e v ⟨o, ho, hd⟩ => by
    have nch : c ∉ ch := fun z => (hch c z).2.2.1 x c e rfl
    by_cases hc : c ∈ X.fs
    · obtain ⟨sl, q⟩ := slot c o (I.cne x c e) hc nch ho (I.freeC x c e)
      exact ⟨_, q, hd⟩
    · exact ⟨o, keep c o (I.cne x c e) hc nch ho (I.freeC x c e), hd⟩
  refine ⟨I.ok, I.os, hg, ⟨fun b o e n hb hx => ?_, fun b o e n hb hx => ?_, fun b o e n hx => ?_, fun b o e hx => ?_, fun b xs e => tups b xs (I.base.tups b xs e), fun b o xs e => frzs b o xs (I.base.frzs b o xs e), fun b ps e => ?_⟩, ?_, fun x c e => ?_, ?_, fun x c e => ?_, fun p hp => ?_, hok, I.len⟩
  · exact keep b o (neL b o e) hb (neC b o e hx) (I.base.keep b o e n hb hx) (I.base.free b o e n hx)
  · obtain ⟨sl, e1⟩ := I.base.slot b o e n hb hx
    obtain ⟨sl', e2⟩ := slot b _ (neL b o e) hb (neC b o e hx) e1 (I.base.free b o e n hx)
    exact ⟨sl', e2⟩
  · obtain ⟨o', e1⟩ := I.base.there b o e hx
    exact free b o' (neC b o e hx) e1 (I.base.free b o e n hx)
  · obtain ⟨o', e1⟩ := I.base.there b o e hx
    exact there b o' (neC b o e hx) e1
  · obtain ⟨m1, e1⟩ := I.base.tbls b ps e
    obtain ⟨m2, e2⟩ := tbls b _ e1
    exact ⟨m1 ++ m2, by rw [e2, Array.append_assoc]⟩
  · obtain ⟨m, hn, hl⟩ := I.loc
    refine ⟨m, ns m hn, fun i x v e1 e2 e3 => ?_⟩
    obtain ⟨u, r, l⟩ := hl i x v e1 e2 e3
    refine ⟨u, r, ?_⟩
    rcases l with l | ⟨k, c, e, z⟩
    · exact .inl l
    · exact .inr ⟨k, c, e, cellK x c e _ z⟩
  · obtain ⟨v, z⟩ := I.cell x c e
    exact ⟨v, cellK x c e v z⟩
  · obtain ⟨m, ⟨o, _, _, ho, _⟩, _⟩ := I.loc
    exact free _ o (fun z => (hch _ z).2.1 rfl) ho I.free
  · obtain ⟨v, o, ho, hd⟩ := I.cell x c e
    exact free c o (fun z => (hch c z).2.2.1 x c e rfl) ho (I.freeC x c e)
  · obtain ⟨e, n, ne, nf, d⟩ := I.pin p hp
    have nch : p.1 ∉ ch := fun z => (hch p.1 z).2.2.2 p hp rfl
    exact ⟨keep p.1 p.2 ne nf nch e n, free p.1 p.2 nch e n, ne, nf, d⟩
/-- .. where the frame's own object is kept too -/
theorem Inv.un {t' : Nat} (I : Inv X pins σ H s) (u : Un X.fs [] H H' s.heap h') (hok : HOk X.prog X.w H' h') : Inv X pins σ H' { s with heap := h', toks := t' } := by
  obtain ⟨m, ⟨o, es, ep, ho, r⟩, _⟩ := id I.loc
  obtain ⟨sl, hL⟩ := u.any ho I.free (by simp)
  exact I.step (g' := s.gens) (d' := s.drawn) (ch := []) (fun _ z => nomatch z) (fun b o _ hb _ e n => u.keep b o e n hb (by simp)) (fun b o _ hb _ e n => u.slot b o e n hb (by simp)) (fun b o _ e n => u.free b o e n (by simp)) (fun b o _ e => u.there b o e (by simp)) u.tups u.frzs u.tbls (fun m' hm => by
    obtain ⟨o', es', ep', ho', r'⟩ := hm
    rw [ho] at ho'; cases ho'
    exact ⟨_, es', ep', hL, r'⟩) hok I.bare
/-- behind a call (or a comprehension's block): the slots of this frame may have changed too, the records at ch may have turned -/
theorem Inv.call {g' : Array GenState} {t' : Nat} {d' : Drawn} {ch : List Addr} (I : Inv X pins σ H s) (u : Un (frs X.stack) ch H H' s.heap h') (hok : HOk X.prog X.w H' h') (hg : AllBare g')
    (hch : ∀ b ∈ ch, (b ∈ X.ex ∨ X.s₀.heap.objs.size ≤ b) ∧ b ≠ X.env.locals ∧ (∀ x c, X.env.cells.lookup x = some c → c ≠ b) ∧ ∀ p ∈ X.pn ++ pins, p.1 ≠ b) :
    Inv X pins σ H' { s with heap := h', gens := g', drawn := d', toks := t' } := by
  obtain ⟨m, ⟨o, es, ep, ho, r⟩, _⟩ := id I.loc
  obtain ⟨sl, hL⟩ := u.any ho I.free fun z => (hch _ z).2.1 rfl
  exact I.step (ch := ch) hch (fun b o hL hb hc e n => u.keep b o e n (fun z => (List.mem_cons.mp (I.stkSub b z)).elim hL hb) hc) (fun b o _ _ hc e n => u.any e n hc) (fun b o hc e n => u.free b o e n hc) (fun b o hc e => u.there b o e hc) u.tups u.frzs u.tbls (fun m' hm => by
    obtain ⟨o', es', ep', ho', r'⟩ := hm
    rw [ho] at ho'; cases ho'
    exact ⟨_, es', ep', hL, r'⟩) hok hg
/-- an untracked record of ours (an iterator) has turned -/
theorem Inv.turned {t' : Nat} {it : Addr} (I : Inv X pins σ H s) (k : ∀ b o, b ≠ it → s.heap.get? b = some o → h'.get? b = some o) (hn : H it = none) (hL : it ≠ X.env.locals)
    (h1 : it ∈ X.ex ∨ X.s₀.heap.objs.size ≤ it) (h2 : ∀ x c, X.env.cells.lookup x = some c → c ≠ it) (h3 : ∀ p ∈ X.pn ++ pins, p.1 ≠ it) : Inv X pins σ H { s with heap := h', toks := t' } := by
  have nit : ∀ b u, H b = some u → b ≠ it := fun b u e z => by rw [z, hn] at e; cases e
  refine I.step (g' := s.gens) (d' := s.drawn) (ch := [it]) (fun b hb => ?_) (fun b o _ _ hc e _ => k b o (fun z => hc (by simp [z])) e) (fun b o _ _ hc e _ => ⟨o.slots, k b o (fun z => hc (by simp [z])) e⟩) (fun _ _ _ _ n => n)
    (fun b o hc e => ⟨o, k b o (fun z => hc (by simp [z])) e⟩) (fun _ _ e => e) (fun _ _ _ e => e) (fun b ps e => ⟨#[], by rw [e]; simp⟩) (fun m hm => ?_) (fun b u e => ?_) I.bare
  · have e : b = it := by simpa using hb
    subst e
    exact ⟨h1, hL, h2, h3⟩
  · obtain ⟨o, es, ep, ho, r⟩ := hm
    exact ⟨o, es, ep, k _ o (Ne.symm hL) ho, r⟩
  · refine (I.hok b u e).stay (fun c v hc q => k c v ?_ q) (fun _ q => q) fun _ _ q => q
    rcases hc with z | z
    · rw [z]; exact nit b u e
    · exact nit c _ z
theorem Inv.tok (I : Inv X pins σ H s) (t : Nat) : Inv X pins σ H { s with toks := t } := I.un (h' := s.heap) (t' := t) Un.refl I.hok
/-- all objects kept -/
theorem Inv.kept {t' : Nat} (I : Inv X pins σ H s) (k : ∀ b u, s.heap.get? b = some u → h'.get? b = some u) : Inv X pins σ H { s with heap := h', toks := t' } := I.un (Un.kept k) (I.hok.kept k)
/-- a new object laid and tracked -/
theorem Inv.laid {a : Addr} {o : HO} {t' : Nat} (I : Inv X pins σ H s) (k : ∀ b u, s.heap.get? b = some u → h'.get? b = some u) (hp : s.heap.objs.size ≤ a) (new : ObjOk X.prog X.w (upd H a o) h' a o) :
    Inv X pins σ (upd H a o) { s with heap := h', toks := t' } := I.un (Un.laid k hp (I.hok.fresh hp)) (I.hok.laid k hp new)
/-- an object written -/
theorem Inv.write {x e : Addr} {o : HO} {t' : Nat} (I : Inv X pins σ H s) (mu : Mut (H x)) (he : e = x ∨ H e = some (.own x)) (k : ∀ b u, b ≠ e → s.heap.get? b = some u → h'.get? b = some u) (heo : ∃ u, h'.get? e = some u)
    (new : ObjOk X.prog X.w (upd H x o) h' x o) : Inv X pins σ (upd H x o) { s with heap := h', toks := t' } := I.un (Un.write mu he k heo) (I.hok.write mu he k heo new)
theorem Inv.pins_of {pins' : List (Addr × Obj)} (I : Inv X pins σ H s) (h : ∀ p ∈ pins', s.heap.get? p.1 = some p.2 ∧ H p.1 = none ∧ p.1 ≠ X.env.locals ∧ p.1 ∉ X.fs ∧ ∀ v, p.2.data ≠ .cell v) : Inv X pins' σ H s :=
  ⟨I.ok, I.os, I.bare, I.base, I.loc, I.cell, I.free, I.freeC, fun p hp => (List.mem_append.mp hp).elim (fun z => I.pin p (List.mem_append_left _ z)) (h p), I.hok, I.len⟩

theorem nodup_ix {N : List Str} (hN : N.Nodup) {i j : Nat} {x : Str} (a : N[i]? = some x) (b : N[j]? = some x) : i = j := by
  obtain ⟨h1, e1⟩ := List.getElem?_eq_some_iff.mp a
  obtain ⟨h2, e2⟩ := List.getElem?_eq_some_iff.mp b
  exact (List.getElem_inj hN).mp (e1.trans e2.symm)

/-- a name is stored; what changed -/
theorem store_ok2 {M : Model} {A : Around} {E : Value → Shared → Prop} {i : Nat} {x : Str} {v : V} {u : Value} {Q : Unit → Shared → Prop} (I : Inv X pins σ H s) (hN : X.N.Nodup) (hi : X.N[i]? = some x) (hx : Loc X.env.scope x) (r : RelV v u)
    (h : ∀ s', Inv X pins (σ.set i (some v)) H s' → (∃ a, Heap.SameBut a s.heap s'.heap ∧ (a = X.env.locals ∨ X.env.cells.lookup x = some a)) → Q () s') (hf : X.fn x = true ∨ X.env.scope.names.lookup x = some .local := by first | exact .inl rfl | exact .inr rfl | assumption) : wpAny M A (storeName X.env x u) Q E s := by
  obtain ⟨m, hn, hl⟩ := id I.loc
  have hcls : (X.env.scope.kind == .class || (X.env.scope.kind == .module && X.env.locals != X.env.globals)) = false := by rw [I.ok.kind]; rfl
  have hiσ : i < σ.length := by rw [I.len]; exact (List.getElem?_eq_some_iff.mp hi).1
  have cne := I.cne
  have tracked : ∀ {a : Addr} {h' : Heap}, (∃ o, s.heap.get? a = some o ∧ H a = none) → Heap.SameBut a s.heap h' → HOk X.prog X.w H h' := fun {a h'} ha hs b ob e => by
    obtain ⟨_, _, hfree⟩ := ha
    refine (I.hok b ob e).stay (fun c w' hc q => (hs.2 c ?_).trans q) (fun _ q => q) fun _ _ q => q
    rintro rfl
    rcases hc with rfl | hc
    · rw [hfree] at e; cases e
    · rw [hfree] at hc; cases hc
  rcases hx with hk | hk
  · refine wpAny_storeName_local hk hn (fun h' hn' hs => ?_) hcls
    obtain ⟨oL, _, _, hoL, _⟩ := id hn
    refine h _ ⟨I.ok, I.os, I.bare, ⟨fun b o e n hb hx => ?_, fun b o e n hb hx => ?_, I.base.free, fun b o e hx => ?_, I.base.tups, I.base.frzs, I.base.tbls⟩, ⟨_, hn', fun j y v' e1 e2 e3 => ?_⟩, fun y c e => ?_, I.free, I.freeC, fun p hp => ?_, tracked ⟨oL, hoL, I.free⟩ hs, by simpa using I.len⟩ ⟨_, hs, .inl rfl⟩
    · exact (hs.2 b (Nat.ne_of_lt (Nat.lt_of_lt_of_le (Heap.lt_size e) I.ok.above))).trans (I.base.keep b o e n hb hx)
    · obtain ⟨sl, e1⟩ := I.base.slot b o e n hb hx
      exact ⟨sl, (hs.2 b (Nat.ne_of_lt (Nat.lt_of_lt_of_le (Heap.lt_size e) I.ok.above))).trans e1⟩
    · obtain ⟨o', e1⟩ := I.base.there b o e hx
      exact ⟨o', (hs.2 b (Nat.ne_of_lt (Nat.lt_of_lt_of_le (Heap.lt_size e) I.ok.above))).trans e1⟩
    · by_cases hj : j = i
      · subst hj
        rw [hi] at e1; cases e1
        rw [List.getElem?_set_self hiσ] at e2
        cases e2
        exact ⟨u, r, .inl ⟨hk, by simp⟩⟩
      · rw [List.getElem?_set_ne (Ne.symm hj)] at e2
        obtain ⟨u', r', q⟩ := hl j y v' e1 e2 e3
        refine ⟨u', r', ?_⟩
        rcases q with ⟨k, e⟩ | ⟨k, c, e, z⟩
        · refine .inl ⟨k, ?_⟩
          have : y ≠ x := fun e => hj (nodup_ix hN e1 (e ▸ hi))
          simp [this, e]
        · exact .inr ⟨k, c, e, z.sameBut hs (cne y c e)⟩
    · obtain ⟨w', z⟩ := I.cell y c e
      exact ⟨w', z.sameBut hs (cne y c e)⟩
    · obtain ⟨e, n, ne, nf, d⟩ := I.pin p hp
      exact ⟨(hs.2 p.1 ne).trans e, n, ne, nf, d⟩
  · have hfn : X.fn x = true := by
      rcases hf with z | z
      · exact z
      · rw [z] at hk; cases hk
    obtain ⟨c, hc⟩ := I.ok.has x (.inl hk)
    obtain ⟨w', z⟩ := I.cell x c hc
    refine wpAny_storeName_cell I.ok.kind hk hc z (fun h' hc' hs => ?_)
    obtain ⟨oc, hoc, hocd⟩ := id z
    refine h { s with heap := h' } ⟨I.ok, I.os, I.bare, ⟨fun b o e n hb hx => ?_, fun b o e n hb hx => ?_, I.base.free, fun b o e hx => ?_, I.base.tups, I.base.frzs, I.base.tbls⟩, ⟨m, hn.sameBut hs (Ne.symm (cne x c hc)), fun j y v' e1 e2 e3 => ?_⟩, fun y c' e => ?_, I.free, I.freeC, fun p hp => ?_, tracked ⟨oc, hoc, I.freeC x c hc⟩ hs, by simpa using I.len⟩ ⟨c, hs, .inr hc⟩
    · exact (hs.2 b (Nat.ne_of_lt (Nat.lt_of_lt_of_le (Heap.lt_size e) (I.ok.cab x c hfn hc)))).trans (I.base.keep b o e n hb hx)
    · obtain ⟨sl, e1⟩ := I.base.slot b o e n hb hx
      exact ⟨sl, (hs.2 b (Nat.ne_of_lt (Nat.lt_of_lt_of_le (Heap.lt_size e) (I.ok.cab x c hfn hc)))).trans e1⟩
    · obtain ⟨o', e1⟩ := I.base.there b o e hx
      exact ⟨o', (hs.2 b (Nat.ne_of_lt (Nat.lt_of_lt_of_le (Heap.lt_size e) (I.ok.cab x c hfn hc)))).trans e1⟩
    · by_cases hj : j = i
      · subst hj
        rw [hi] at e1; cases e1
        rw [List.getElem?_set_self hiσ] at e2
        cases e2
        exact ⟨u, r, .inr ⟨.inl hk, c, hc, hc'⟩⟩
      · rw [List.getElem?_set_ne (Ne.symm hj)] at e2
        obtain ⟨u', r', q⟩ := hl j y v' e1 e2 e3
        refine ⟨u', r', ?_⟩
        rcases q with q | ⟨k, c', e, z'⟩
        · exact .inl q
        · refine .inr ⟨k, c', e, z'.sameBut hs ?_⟩
          rintro rfl
          exact hj (nodup_ix hN e1 (I.ok.inj _ _ _ e hc ▸ hi))
    · by_cases hcc : c' = c
      · subst hcc; exact ⟨_, hc'⟩
      · obtain ⟨w2, z2⟩ := I.cell y c' e
        exact ⟨w2, z2.sameBut hs hcc⟩
    · obtain ⟨e, n, ne, nf, d⟩ := I.pin p hp
      refine ⟨(hs.2 p.1 ?_).trans e, n, ne, nf, d⟩
      intro q
      rw [q, hoc] at e
      have q' : oc = p.2 := Option.some.inj e
      exact d w' (by rw [← q']; exact hocd)
theorem store_ok {M : Model} {A : Around} {E : Value → Shared → Prop} {i : Nat} {x : Str} {v : V} {u : Value} {Q : Unit → Shared → Prop} (I : Inv X pins σ H s) (hN : X.N.Nodup) (hi : X.N[i]? = some x) (hx : Loc X.env.scope x) (r : RelV v u)
    (h : ∀ s', Inv X pins (σ.set i (some v)) H s' → Q () s') (hf : X.fn x = true ∨ X.env.scope.names.lookup x = some .local := by first | exact .inl rfl | exact .inr rfl | assumption) : wpAny M A (storeName X.env x u) Q E s :=
  store_ok2 I hN hi hx r (fun s' I' _ => h s' I') hf
end

/-! ### the judgements -/
/-- an exception: its class, its own dict's address (where it has one), the abstract heap behind it -/
abbrev XK := Value → Option Addr → Hp → Prop
abbrev St := List (Option V)
abbrev VK := V → Hp → Prop
/-- an expression's reading; a test's; an argument list's -/
abbrev TE := St → Hp → VK → Prop
abbrev TT := St → Hp → (Bool → Hp → Prop) → Prop
abbrev TA := St → Hp → (List V → Hp → Prop) → Prop
/-- what is wanted behind a statement -/
structure Ends where
  nx : St → Hp → Prop
  rt : VK
  bk : St → Hp → Prop := fun _ _ => False
  ct : St → Hp → Prop := fun _ _ => False
abbrev TS := Ends → St → Hp → Prop

def EP (X : Cx) (pins : List (Addr × Obj)) (σ : St) (Q : VK) (u : Value) (s' : Shared) : Prop := ∃ v H', Inv X pins σ H' s' ∧ RelV v u ∧ Q v H'
def TP (X : Cx) (pins : List (Addr × Obj)) (σ : St) (Q : Bool → Hp → Prop) (b : Bool) (s' : Shared) : Prop := ∃ H', Inv X pins σ H' s' ∧ Q b H'
def AP (X : Cx) (pins : List (Addr × Obj)) (σ : St) (Q : List V → Hp → Prop) (us : List Value) (s' : Shared) : Prop := ∃ vs H', Inv X pins σ H' s' ∧ Vals vs us ∧ Q vs H'
def SP (X : Cx) (pins : List (Addr × Obj)) (D : Ends) (f : Flow) (s' : Shared) : Prop :=
  match f with
  | .next => ∃ σ' H', Inv X pins σ' H' s' ∧ D.nx σ' H'
  | .brk => ∃ σ' H', Inv X pins σ' H' s' ∧ D.bk σ' H'
  | .cont => ∃ σ' H', Inv X pins σ' H' s' ∧ D.ct σ' H'
  | .ret u => ∃ v σ' H', Inv X pins σ' H' s' ∧ RelV v u ∧ D.rt v H'

def PE (X : Cx) (e : Expr) (t : TE) : Prop :=
  ∀ (pins : List (Addr × Obj)) (s : Shared) (σ : St) (H : Hp) (Q : VK), Inv X pins σ H s → t σ H Q → wpAny (model X.prog X.w) X.A (eval e X.env) (EP X pins σ Q) X.xe s
def PT (X : Cx) (e : Expr) (t : TT) : Prop :=
  ∀ (pins : List (Addr × Obj)) (s : Shared) (σ : St) (H : Hp) (Q : Bool → Hp → Prop), Inv X pins σ H s → t σ H Q → wpAny (model X.prog X.w) X.A (isTrue e X.env (eval e X.env)) (TP X pins σ Q) X.xe s
/-- a test whatever its 'whole' is (and, or) -/
def PW (X : Cx) (e : Expr) (t : TT) : Prop :=
  ∀ (whole : Sem Value) (pins : List (Addr × Obj)) (s : Shared) (σ : St) (H : Hp) (Q : Bool → Hp → Prop), Inv X pins σ H s → t σ H Q → wpAny (model X.prog X.w) X.A (isTrue e X.env whole) (TP X pins σ Q) X.xe s
theorem PW.pt {X : Cx} {e : Expr} {t : TT} (h : PW X e t) : PT X e t := h _
/-- an argument list (no star), from the left -/
def PA (X : Cx) (es : List Expr) (t : TA) : Prop :=
  ∀ (pos : Pos) (pins : List (Addr × Obj)) (s : Shared) (σ : St) (H : Hp) (Q : List V → Hp → Prop), Inv X pins σ H s → t σ H Q → wpAny (model X.prog X.w) X.A (spliced (backTo pos (starEach es X.env))) (AP X pins σ Q) X.xe s
def PS (X : Cx) (st : Stmt) (t : TS) : Prop :=
  ∀ (pins : List (Addr × Obj)) (s : Shared) (σ : St) (H : Hp) (D : Ends), Inv X pins σ H s → t D σ H → wpAny (model X.prog X.w) X.A (exec st X.env) (SP X pins D) X.xe s
def PSs (X : Cx) (st : List Stmt) (t : TS) : Prop :=
  ∀ (pins : List (Addr × Obj)) (s : Shared) (σ : St) (H : Hp) (D : Ends), Inv X pins σ H s → t D σ H → wpAny (model X.prog X.w) X.A (execs st X.env) (SP X pins D) X.xe s
/-- weaken the end -/
theorem thn {α : Type} {t : Sem α} {Q Q' : α → Shared → Prop} {M : Model} {A : Around} {E : Value → Shared → Prop} {s : Shared} (h : wpAny M A t Q E s) (hQ : ∀ a s, Q a s → Q' a s) : wpAny M A t Q' E s := wpAny_mono h hQ fun _ _ x => x
end L2

namespace L2
open PySem PySem.Spec PyProof.Rows
section
variable {X : Cx}

/-! ### names and constants -/
def tVar (i : Nat) : TE := fun σ H Q => ∃ v, σ[i]? = some (some v) ∧ Q v H
def tC (v : V) : TE := fun _ H Q => Q v H
theorem pe_var {i : Nat} {x : Str} {pos : Pos} (hN : X.N[i]? = some x) (hv : Vis X.env.scope x) (hd : (x == ("__debug__" : Str)) = false := by decide) (hcd : (x == ("__classdict__" : Str)) = false := by decide) : PE X (.Name x pos) (tVar i) := by
  intro pins s σ H Q I h
  obtain ⟨v, e, h⟩ := h
  obtain ⟨m, hn, hl⟩ := I.loc
  obtain ⟨u, r, l⟩ := hl i x v hN e hv
  have fin : EP X pins σ Q u s := ⟨v, H, I, r, h⟩
  rcases l with ⟨hk, hm⟩ | ⟨hk, c, hc, hcell⟩
  · exact wpAny_Name (wpAny_loadName_local I.ok.kind hk hn hm fin) hd
  · rcases hk with hk | hk
    · exact wpAny_Name (wpAny_loadName_cell I.ok.kind hk hc hcell fin) hd
    · exact wpAny_Name (wpAny_loadName_free I.ok.kind hk hc hcell fin hcd) hd
theorem pe_int {i j pos} : PE X (.Constant (.int i) j pos) (tC (.int i)) := fun _ _ _ H _ I h => wpAny_Constant_int ⟨.int i, H, I.tok _, ⟨_, rfl⟩, h⟩
theorem pe_bl {b j pos} : PE X (.Constant (.bool b) j pos) (tC (.bl b)) := fun _ _ _ H _ I h => Constant_bool ⟨.bl b, H, I, rfl, h⟩
theorem pe_non {j pos} : PE X (.Constant .none j pos) (tC .non) := fun _ _ _ H _ I h => Constant_none ⟨.non, H, I, rfl, h⟩
theorem pe_str {x j pos} : PE X (.Constant (.str x) j pos) (tC (.str x)) := fun _ _ _ H _ I h => Calls.Constant_str ⟨.str x, H, I.tok _, ⟨_, rfl⟩, h⟩

/-- a global name of the def -/
def Gl (X : Cx) (x : Str) : Prop := X.env.kindOf x = some .globalImplicit
theorem ld_glob {E : Value → Shared → Prop} {pins : List (Addr × Obj)} {s : Shared} {σ : St} {H : Hp} {x : Str} {u : Value} {pos : Pos} {Q : Value → Shared → Prop} (I : Inv X pins σ H s) (hg : Gl X x) (hm : X.mg x = some u) (h : Q u s)
    (hd : (x == ("__debug__" : Str)) = false := by decide) : wpAny (model X.prog X.w) X.A (eval (.Name x pos) X.env) Q E s :=
  Calls.Name_function_global I.ok.kind hg (Calls.loadGlobal_global (by rw [I.ok.glob]; exact I.mod.glob.keeps I.bk) hm h) hd
theorem ld_blt {E : Value → Shared → Prop} {pins : List (Addr × Obj)} {s : Shared} {σ : St} {H : Hp} {x : Str} {u : Value} {pos : Pos} {Q : Value → Shared → Prop} (I : Inv X pins σ H s) (hg : Gl X x) (hm : X.mg x = none) (hv : bootBuiltins x = some u) (h : Q u s)
    (hn : x ≠ "__name__" := by decide) (hd : (x == ("__debug__" : Str)) = false := by decide) : wpAny (model X.prog X.w) X.A (eval (.Name x pos) X.env) Q E s := by
  obtain ⟨mb, h1, h2⟩ := I.mod.blt
  exact Calls.Name_function_global I.ok.kind hg (Calls.loadGlobal_builtin (by rw [I.ok.glob]; exact I.mod.glob.keeps I.bk) hm (by rw [I.ok.blt]; exact h1.keeps I.bk) ((h2 x hn).trans hv) h) hd
/-- a module's constant, a class, a function, as a value -/
theorem pe_glob {x : Str} {v : V} {u : Value} {pos : Pos} (hg : Gl X x) (hm : X.mg x = some u) (r : RelV v u) (hd : (x == ("__debug__" : Str)) = false := by decide) : PE X (.Name x pos) (tC v) :=
  fun _ _ _ H _ I h => ld_glob I hg hm ⟨v, H, I, r, h⟩ hd
/-! ### arithmetic -/
/-- two ints -/
def t2I (ta tb : TE) (k : Int → Int → Hp → Prop) : St → Hp → Prop := fun σ H => ta σ H fun x H1 => tb σ H1 fun y H2 => ∃ i j, x = .int i ∧ y = .int j ∧ k i j H2
def tAdd (ta tb : TE) : TE := fun σ H Q => t2I ta tb (fun i j H2 => Q (.int (i + j)) H2) σ H
def tSub (ta tb : TE) : TE := fun σ H Q => t2I ta tb (fun i j H2 => Q (.int (i - j)) H2) σ H
/-- the left factor below 2^64 -/
def tMul (ta tb : TE) : TE := fun σ H Q => t2I ta tb (fun i j H2 => (-(2 ^ 64) < i ∧ i < 2 ^ 64) ∧ Q (.int (i * j)) H2) σ H
variable {a b : Expr} {ta tb : TE} {pos : Pos}
/-! ### comparisons -/
def PC (X : Cx) (op : CmpOp) (a b : Expr) (t : TE) : Prop :=
  ∀ (pins : List (Addr × Obj)) (s : Shared) (σ : St) (H : Hp) (Q : VK), Inv X pins σ H s → t σ H Q →
    wpAny (model X.prog X.w) X.A (eval a X.env) (fun v s₁ => wpAny (model X.prog X.w) X.A (eval b X.env) (fun u s₂ => wpAny (model X.prog X.w) X.A (compareOp op v u) (EP X pins σ Q) X.xe s₂) X.xe s₁) X.xe s
theorem nobehind (b : Expr) {op : CmpOp} (h : op ≠ .In) (h2 : op ≠ .NotIn) : behindInMarks op b = false := by
  have e1 : (op == CmpOp.In) = false := by cases op <;> first | rfl | exact absurd rfl h
  have e2 : (op == CmpOp.NotIn) = false := by cases op <;> first | rfl | exact absurd rfl h2
  cases b <;> simp [behindInMarks, e1, e2]
def tCmp (p : Int → Int → Bool) (ta tb : TE) : TE := fun σ H Q => t2I ta tb (fun i j H2 => Q (.bl (p i j)) H2) σ H
abbrev tLt : TE → TE → TE := tCmp fun i j => decide (i < j)
abbrev tLe : TE → TE → TE := tCmp fun i j => decide (i ≤ j)
abbrev tGt : TE → TE → TE := tCmp fun i j => decide (j < i)
abbrev tGe : TE → TE → TE := tCmp fun i j => decide (j ≤ i)
abbrev tEqI : TE → TE → TE := tCmp fun i j => decide (i = j)
abbrev tNeI : TE → TE → TE := tCmp fun i j => !decide (i = j)
/-- is None -/
def tIsN (ta : TE) : TE := fun σ H Q => ta σ H fun x H1 => Q (.bl (decide (x = .non))) H1
def tNotN (ta : TE) : TE := fun σ H Q => ta σ H fun x H1 => Q (.bl (!decide (x = .non))) H1
theorem RelV.none_iff {x : V} {v : Value} (r : RelV x v) : (v == Value.none) = decide (x = .non) := by
  cases x with
  | non => cases r; rfl
  | bl _ => cases r; rfl
  | int _ => obtain ⟨t, rfl⟩ := r; rfl
  | str _ => obtain ⟨t, rfl⟩ := r; rfl
  | byt _ => obtain ⟨t, rfl⟩ := r; rfl
  | flt _ => obtain ⟨t, rfl⟩ := r; rfl
  | ref _ => cases r; rfl
  | ty _ => cases r; rfl
theorem pc_isN {j pos'} (ha : PE X a ta) : PC X .Is a (.Constant .none j pos') (tIsN ta) := by
  intro pins s σ H Q I h
  refine thn (ha pins s σ H _ I h) fun v s1 ⟨x, H1, I1, r1, q1⟩ => ?_
  exact Constant_none (is_none_gen ⟨.bl _, H1, I1, by rw [r1.none_iff]; rfl, q1⟩)
theorem pc_notN {j pos'} (ha : PE X a ta) : PC X .IsNot a (.Constant .none j pos') (tNotN ta) := by
  intro pins s σ H Q I h
  refine thn (ha pins s σ H _ I h) fun v s1 ⟨x, H1, I1, r1, q1⟩ => ?_
  exact Constant_none (isnot_none_gen ⟨.bl _, H1, I1, by rw [r1.none_iff]; rfl, q1⟩)
/-- a comparison as a value, as a test -/
def tB (t : TE) : TT := fun σ H Q => t σ H fun x H1 => ∃ c, x = .bl c ∧ Q c H1
theorem pt_cmp {op : CmpOp} {t : TE} (h : PC X op a b t) (h1 : behindInMarks op b = false := by first | exact nobehind _ (by decide) (by decide) | rfl) : PT X (.Compare a [op] [b] pos) (tB t) := by
  intro pins s σ H Q I hw
  refine wpAny_isTrue_Compare1 (thn (h pins s σ H _ I hw) fun v s1 h1 => thn h1 fun u s2 h2 => thn h2 fun c s3 ⟨x, H1, I1, r1, q1⟩ => ?_) h1
  obtain ⟨d, rfl, q⟩ := q1
  cases r1
  exact wpAny_truthy_bool ⟨H1, I1, q⟩
/-- an expression whose value is a bool, as a test -/
theorem pt_val {e : Expr} {t : TE} (h : PE X e t) (he : ∀ whole, isTrue e X.env whole = (do let v ← whole; standAt e.pos; holding [v] (truthy v)) := by intro _; rfl) : PT X e (tB t) := by
  intro pins s σ H Q I hw
  refine isTrue_plain (thn (h pins s σ H _ I hw) fun v s1 ⟨x, H1, I1, r1, q1⟩ => ?_) (he _)
  obtain ⟨d, rfl, q⟩ := q1
  cases r1
  exact wpAny_truthy_bool ⟨H1, I1, q⟩

/-! ### and, or, not -/
variable {tA tB' : TT} {rest : List Expr}
def tAnd (t u : TT) : TT := fun σ H Q => t σ H fun c H1 => if c = true then u σ H1 Q else Q false H1
def tOr (t u : TT) : TT := fun σ H Q => t σ H fun c H1 => if c = true then Q true H1 else u σ H1 Q
def tNot (t : TT) : TT := fun σ H Q => t σ H fun c H1 => Q (!c) H1
theorem pw_and1 (ha : PT X a tA) : PW X (.BoolOp .And [a] pos) tA := by
  intro wh pins s σ H Q I h
  refine isTrue_and (thn (ha pins s σ H Q I h) fun c s1 e => ?_)
  cases c with
  | true => exact isTrue_and_nil e
  | false => exact e
theorem pw_or1 (ha : PT X a tA) : PW X (.BoolOp .Or [a] pos) tA := by
  intro wh pins s σ H Q I h
  refine isTrue_or (thn (ha pins s σ H Q I h) fun c s1 e => ?_)
  cases c with
  | false => exact isTrue_or_nil e
  | true => exact e
theorem pw_and (ha : PT X a tA) (hb : PW X (.BoolOp .And (b :: rest) pos) tB') : PW X (.BoolOp .And (a :: b :: rest) pos) (tAnd tA tB') := by
  intro wh pins s σ H Q I h
  refine isTrue_and (thn (ha pins s σ H _ I h) fun c s1 ⟨H1, I1, q1⟩ => ?_)
  cases c with
  | true => exact hb wh pins s1 σ H1 Q I1 q1
  | false => exact ⟨H1, I1, q1⟩
theorem pw_or (ha : PT X a tA) (hb : PW X (.BoolOp .Or (b :: rest) pos) tB') : PW X (.BoolOp .Or (a :: b :: rest) pos) (tOr tA tB') := by
  intro wh pins s σ H Q I h
  refine isTrue_or (thn (ha pins s σ H _ I h) fun c s1 ⟨H1, I1, q1⟩ => ?_)
  cases c with
  | true => exact ⟨H1, I1, q1⟩
  | false => exact hb wh pins s1 σ H1 Q I1 q1
theorem pt_not (ha : PT X a tA) : PT X (.UnaryOp .Not a pos) (tNot tA) := by
  intro pins s σ H Q I h
  exact isTrue_not (ha pins s σ H (fun c H1 => Q (!c) H1) I h)
/-- .. as values (bools) -/
def tAndV (ta tb : TE) : TE := fun σ H Q => ta σ H fun x H1 => ∃ c, x = .bl c ∧ if c = true then tb σ H1 Q else Q (.bl false) H1
def tOrV (ta tb : TE) : TE := fun σ H Q => ta σ H fun x H1 => ∃ c, x = .bl c ∧ if c = true then Q (.bl true) H1 else tb σ H1 Q
def tNotV (ta : TE) : TE := fun σ H Q => ta σ H fun x H1 => ∃ c, x = .bl c ∧ Q (.bl (!c)) H1
theorem pe_not (ha : PE X a ta) : PE X (.UnaryOp .Not a pos) (tNotV ta) := by
  intro pins s σ H Q I h
  refine UnaryOp_ (thn (ha pins s σ H _ I h) fun v s1 ⟨x, H1, I1, r1, q1⟩ => ?_)
  obtain ⟨c, rfl, q1⟩ := q1
  cases r1
  exact not_of (wpAny_truthy_bool ⟨.bl (!c), H1, I1, rfl, q1⟩)
/-- a if t else b -/
def tIf (t : TT) (ta tb : TE) : TE := fun σ H Q => t σ H fun c H1 => if c = true then ta σ H1 Q else tb σ H1 Q
end
end L2

namespace L2
open PySem PySem.Spec PyProof.Rows

/-! ### a list, a tuple that is read: tracked, frozen, or an object of the module -/
def SqL (K : PySem.W.Frag) (H : Hp) (a : Addr) (xs : List V) : Prop :=
  Rd H a (.lst xs) ∨
    ∃ (o : Obj) (its : Array Value) (n : Nat), K.lookup a = some o ∧ o.cls = .type "list" ∧ o.dict = none ∧ o.data = .seq its n ∧ its.size ≤ sizeLine ∧ Vals xs its.toList
def SqT (K : PySem.W.Frag) (H : Hp) (a : Addr) (xs : List V) : Prop :=
  Rd H a (.tup xs) ∨
    ∃ (o : Obj) (its : Array Value) (n : Nat), K.lookup a = some o ∧ o.cls = .type "tuple" ∧ o.data = .seq its n ∧ its.size ≤ sizeLine ∧ Vals xs its.toList
def absV : Value → Option V
  | .none => some .non
  | .bool b => some (.bl b)
  | .int i _ => some (.int i)
  | .str x _ => some (.str x)
  | .bytes b _ => some (.byt b)
  | .float b _ => some (.flt b)
  | .ref a => some (.ref a)
  | .type n => some (.ty n)
  | _ => none
theorem RelV.abs {x : V} {u : Value} (r : RelV x u) : absV u = some x := by
  cases x with
  | non => cases r; rfl
  | bl _ => cases r; rfl
  | int _ => obtain ⟨t, rfl⟩ := r; rfl
  | str _ => obtain ⟨t, rfl⟩ := r; rfl
  | byt _ => obtain ⟨t, rfl⟩ := r; rfl
  | flt _ => obtain ⟨t, rfl⟩ := r; rfl
  | ref _ => cases r; rfl
  | ty _ => cases r; rfl
theorem RelV.inj {x y : V} {u : Value} (r : RelV x u) (q : RelV y u) : x = y := Option.some.inj (r.abs.symm.trans q.abs)
theorem Vals.inj : ∀ {xs ys : List V} {us : List Value}, Vals xs us → Vals ys us → xs = ys
  | _, _, _, .nil, .nil => rfl
  | _, _, _, .cons r t, .cons r' t' => by rw [r.inj r', Vals.inj t t']
section
variable {X : Cx} {pins : List (Addr × Obj)} {σ : St} {H : Hp} {s : Shared} {a : Addr} {xs ys : List V}
theorem SqL.of {K : PySem.W.Frag} (h : H a = some (.lst xs)) : SqL K H a xs := .inl (.inl h)
theorem SqT.of {K : PySem.W.Frag} (h : H a = some (.tup xs)) : SqT K H a xs := .inl (.inl h)
theorem Inv.list (I : Inv X pins σ H s) (h : SqL X.K H a xs) : ∃ its : List Value, Vals xs its ∧ PlainL s.heap a its.toArray ∧ xs.length ≤ sizeLine := by
  rcases h with h | ⟨o, its, n, hk, hc, hd, hs, hz, r⟩
  · obtain ⟨z, its, n, r, e⟩ := h.ok I.hok
    exact ⟨its, r, ⟨_, n, e, rfl, rfl, rfl⟩, z⟩
  · refine ⟨its.toList, r, ⟨o, n, I.kIn a o hk, hc, hd, by simpa using hs⟩, ?_⟩
    have e := r.length
    simp only [Array.length_toList] at e
    omega
theorem Inv.tuple (I : Inv X pins σ H s) (h : SqT X.K H a xs) : ∃ its : List Value, Vals xs its ∧ IsTup s.heap a its.toArray ∧ xs.length ≤ sizeLine := by
  rcases h with h | ⟨o, its, n, hk, hc, hs, hz, r⟩
  · obtain ⟨z, its, r, p⟩ := h.ok I.hok
    exact ⟨its, r, p, z⟩
  · refine ⟨its.toList, r, ⟨o, I.kIn a o hk, hc, n, by simpa using hs⟩, ?_⟩
    have e := r.length
    simp only [Array.length_toList] at e
    omega
theorem Inv.list_inj (I : Inv X pins σ H s) (h : SqL X.K H a xs) (h' : SqL X.K H a ys) : xs = ys := by
  obtain ⟨its, r, ⟨o, n, e, _, _, d⟩, _⟩ := I.list h
  obtain ⟨its', r', ⟨o', n', e', _, _, d'⟩, _⟩ := I.list h'
  rw [e] at e'; cases e'
  rw [d] at d'
  injection d' with d1 _
  have : its = its' := by simpa using congrArg Array.toList d1
  subst this
  exact r.inj r'
theorem Inv.tuple_inj (I : Inv X pins σ H s) (h : SqT X.K H a xs) (h' : SqT X.K H a ys) : xs = ys := by
  obtain ⟨its, r, ⟨o, e, _, n, d⟩, _⟩ := I.tuple h
  obtain ⟨its', r', ⟨o', e', _, n', d'⟩, _⟩ := I.tuple h'
  rw [e] at e'; cases e'
  rw [d] at d'
  injection d' with d1 _
  have : its = its' := by simpa using congrArg Array.toList d1
  subst this
  exact r.inj r'
end

/-! ### another wish about exceptions -/
abbrev Cx.wish (X : Cx) (E : Value → Shared → Prop) : Cx := { X with xe := E }
/-- no exception leaves -/
abbrev Cx.nox (X : Cx) : Cx := X.wish fun _ _ => False
theorem Cx.Ok.wish {X : Cx} (ok : X.Ok) (E : Value → Shared → Prop) : (X.wish E).Ok :=
  ⟨ok.mod, ok.kind, ok.glob, ok.blt, ok.above, ok.inj, ok.has, ok.cab, ok.hd, ok.frames, ok.stk, ok.exf, ok.bs, ok.bsz, ok.noex, ok.exfs, ok.funs, ok.frf⟩
theorem Cx.Ok.unwish {X : Cx} {E : Value → Shared → Prop} (ok : (X.wish E).Ok) : X.Ok :=
  ⟨ok.mod, ok.kind, ok.glob, ok.blt, ok.above, ok.inj, ok.has, ok.cab, ok.hd, ok.frames, ok.stk, ok.exf, ok.bs, ok.bsz, ok.noex, ok.exfs, ok.funs, ok.frf⟩
section
variable {X : Cx} {pins : List (Addr × Obj)} {σ : St} {H : Hp} {s : Shared} {E : Value → Shared → Prop}
theorem Inv.wish (I : Inv X pins σ H s) (E : Value → Shared → Prop) : Inv (X.wish E) pins σ H s := ⟨I.ok.wish E, I.os, I.bare, I.base, I.loc, I.cell, I.free, I.freeC, I.pin, I.hok, I.len⟩
theorem Inv.unwish (I : Inv (X.wish E) pins σ H s) : Inv X pins σ H s := ⟨I.ok.unwish, I.os, I.bare, I.base, I.loc, I.cell, I.free, I.freeC, I.pin, I.hok, I.len⟩
theorem SP.unwish {D : Ends} {f : Flow} {s' : Shared} (h : SP (X.wish E) pins D f s') : SP X pins D f s' := by
  cases f with
  | next => obtain ⟨σ', H', I, q⟩ := h; exact ⟨σ', H', I.unwish, q⟩
  | brk => obtain ⟨σ', H', I, q⟩ := h; exact ⟨σ', H', I.unwish, q⟩
  | cont => obtain ⟨σ', H', I, q⟩ := h; exact ⟨σ', H', I.unwish, q⟩
  | ret u => obtain ⟨v, σ', H', I, r, q⟩ := h; exact ⟨v, σ', H', I.unwish, r, q⟩
theorem PE.nox {e : Expr} {t : TE} (h : PE X.nox e t) : PE X e t := fun pins s σ H Q I hw =>
  wpAny_mono (h pins s σ H Q (I.wish _) hw) (fun _ _ ⟨v, H', I', r, q⟩ => ⟨v, H', I'.unwish, r, q⟩) fun _ _ z => False.elim z
theorem PT.nox {e : Expr} {t : TT} (h : PT X.nox e t) : PT X e t := fun pins s σ H Q I hw =>
  wpAny_mono (h pins s σ H Q (I.wish _) hw) (fun _ _ ⟨H', I', q⟩ => ⟨H', I'.unwish, q⟩) fun _ _ z => False.elim z
theorem PSs.nox {st : List Stmt} {t : TS} (h : PSs X.nox st t) : PSs X st t := fun pins s σ H D I hw =>
  wpAny_mono (h pins s σ H D (I.wish _) hw) (fun _ _ q => q.unwish) fun _ _ z => False.elim z
end

/-! ### blocks and small statements -/
section
variable {X : Cx} {st : Stmt} {rest : List Stmt} {t u : TS} {e : Expr} {te : TE} {pos : Pos}
def tNext : TS := fun D σ H => D.nx σ H
def tSeq (t u : TS) : TS := fun D σ H => t { D with nx := u D } σ H
theorem pss_nil : PSs X [] tNext := fun _ _ σ H _ I h => wpAny_execs_nil ⟨σ, H, I, h⟩
theorem pss_cons (h1 : PS X st t) (h2 : PSs X rest u) : PSs X (st :: rest) (tSeq t u) := by
  intro pins s σ H D I h
  refine wpAny_execs_cons (thn (h1 pins s σ H { D with nx := u D } I h) fun f s1 q => ?_)
  cases f with
  | next =>
    obtain ⟨σ', H', I', q⟩ := q
    exact h2 pins s1 σ' H' D I' q
  | ret v => exact q
  | brk => exact q
  | cont => exact q
theorem pss_one (h1 : PS X st t) : PSs X [st] t := by
  intro pins s σ H D I h
  refine wpAny_execs_cons (thn (h1 pins s σ H D I h) fun f s1 q => ?_)
  cases f with
  | next => exact wpAny_execs_nil q
  | ret v => exact q
  | brk => exact q
  | cont => exact q
def tBreak : TS := fun D σ H => D.bk σ H
def tCont : TS := fun D σ H => D.ct σ H
/-- in a def's body nothing is shown -/
theorem Inv.quiet {pins : List (Addr × Obj)} {σ : St} {H : Hp} {s : Shared} (I : Inv X pins σ H s) : interactive X.env = false := by simp [interactive, I.ok.kind]
/-- an expression whose value is dropped -/
def tDrop (te : TE) : TS := fun D σ H => te σ H fun _ H1 => D.nx σ H1
theorem ps_expr (he : PE X e te) (hs : swapsWith e none pos.line X.env = pure false := by rfl) : PS X (.Expr e pos) (tDrop te) := by
  intro pins s σ H D I h
  exact wpAny_Expr_any (thn (he pins s σ H _ I h) fun v s1 ⟨x, H1, I1, r1, q1⟩ => ⟨σ, H1, I1, q1⟩) I.quiet hs
def tRet (te : TE) : TS := fun D σ H => te σ H D.rt
theorem ps_ret (he : PE X e te) : PS X (.Return (some e) pos) (tRet te) := by
  intro pins s σ H D I h
  exact wpAny_Return_some (thn (he pins s σ H _ I h) fun v s1 ⟨x, H1, I1, r1, q1⟩ => ⟨x, σ, H1, I1, r1, q1⟩)
def tRetN : TS := fun D _ H => D.rt .non H
def tIfS (c : TT) (t u : TS) : TS := fun D σ H => c σ H fun b H1 => if b = true then t D σ H1 else u D σ H1
theorem ps_if {c : Expr} {a b : List Stmt} {tc : TT} (hc : PT X c tc) (ha : PSs X a t) (hb : PSs X b u) : PS X (.If c a b pos) (tIfS tc t u) := by
  intro pins s σ H D I h
  refine wpAny_If (thn (hc pins s σ H _ I h) fun d s1 ⟨H1, I1, q1⟩ => ?_)
  cases d with
  | true => exact ha pins s1 σ H1 D I1 q1
  | false => exact hb pins s1 σ H1 D I1 q1
/-- code that the proof never comes to -/
def tNever : TS := fun _ _ _ => False
end

/-! ### targets -/
abbrev TG := V → St → Hp → (St → Hp → Prop) → Prop
abbrev TGs := List V → St → Hp → (St → Hp → Prop) → Prop
def PG (X : Cx) (target : Expr) (t : TG) : Prop :=
  ∀ (pins : List (Addr × Obj)) (s : Shared) (σ : St) (H : Hp) (v : V) (u : Value) (Q : St → Hp → Prop), Inv X pins σ H s → RelV v u → t v σ H Q →
    wpAny (model X.prog X.w) X.A (assign target X.env u) (fun _ s' => ∃ σ' H', Inv X pins σ' H' s' ∧ Q σ' H') X.xe s
/-- several targets, one after another -/
def PGs (X : Cx) (ts : List Expr) (t : TGs) : Prop :=
  ∀ (pins : List (Addr × Obj)) (s : Shared) (σ : St) (H : Hp) (vs : List V) (us : List Value) (Q : St → Hp → Prop), Inv X pins σ H s → Vals vs us → t vs σ H Q →
    wpAny (model X.prog X.w) X.A (assignInOrder ((assignEach ts X.env).map (·.2)) us) (fun _ s' => ∃ σ' H', Inv X pins σ' H' s' ∧ Q σ' H') X.xe s
/-- o[i] = v, by values -/
abbrev TSet := V → V → V → Hp → (Hp → Prop) → Prop
def PSet (X : Cx) (t : TSet) : Prop :=
  ∀ (pins : List (Addr × Obj)) (s : Shared) (σ : St) (H : Hp) (o i v : V) (ov iv u : Value) (Q : Hp → Prop), Inv X pins σ H s → RelV o ov → RelV i iv → RelV v u → t o i v H Q →
    wpAny (model X.prog X.w) X.A (setItem ov iv u) (fun _ s' => ∃ H', Inv X pins σ H' s' ∧ Q H') X.xe s
/-- a op= b, by values -/
abbrev TIp := V → V → Hp → VK → Prop
def PIp (X : Cx) (op : Operator) (t : TIp) : Prop :=
  ∀ (pins : List (Addr × Obj)) (s : Shared) (σ : St) (H : Hp) (x y : V) (v u : Value) (Q : VK), Inv X pins σ H s → RelV x v → RelV y u → t x y H Q →
    wpAny (model X.prog X.w) X.A (inplaceOp op v u) (EP X pins σ Q) X.xe s
section
variable {X : Cx} {pos : Pos}
def gName (i : Nat) : TG := fun v σ H Q => Q (σ.set i (some v)) H
theorem pg_name {i : Nat} {x : Str} (hN : X.N.Nodup) (hi : X.N[i]? = some x) (hx : Loc X.env.scope x) (hf : X.fn x = true ∨ X.env.scope.names.lookup x = some .local := by first | exact .inl rfl | exact .inr rfl | assumption) : PG X (.Name x pos) (gName i) := by
  intro pins s σ H v u Q I r h
  exact wpAny_assign_Name (store_ok I hN hi hx r (fun s' I' => ⟨_, H, I', h⟩) hf)
def gNil : TGs := fun vs σ H Q => vs = [] ∧ Q σ H
def gCons (t : TG) (u : TGs) : TGs := fun vs σ H Q => ∃ v r, vs = v :: r ∧ t v σ H fun σ' H' => u r σ' H' Q
theorem pgs_nil : PGs X [] gNil := by
  intro pins s σ H vs us Q I r h
  obtain ⟨e, h⟩ := h
  subst e
  cases r
  exact assignInOrder_nil ⟨σ, H, I, h⟩
theorem pgs_cons {e : Expr} {es : List Expr} {t : TG} {u : TGs} (h1 : PG X e t) (h2 : PGs X es u)
    (hs : (assignEach (e :: es) X.env).map (·.2) = assign e X.env :: (assignEach es X.env).map (·.2) := by rfl) : PGs X (e :: es) (gCons t u) := by
  intro pins s σ H vs us Q I r h
  obtain ⟨v, vr, e1, h⟩ := h
  subst e1
  cases r with
  | cons r rr =>
    rw [hs]
    refine assignInOrder_cons (thn (h1 pins s σ H _ _ _ I r h) fun _ s1 ⟨σ1, H1, I1, q1⟩ => ?_)
    exact h2 pins s1 σ1 H1 _ _ Q I1 rr q1
/-- (a, b, ..) = a tuple of that length -/
def gTup (K : PySem.W.Frag) (n : Nat) (t : TGs) : TG := fun v σ H Q => ∃ a xs, v = .ref a ∧ SqT K H a xs ∧ xs.length = n ∧ t xs σ H Q
theorem pg_tup {es : List Expr} {k : Nat} {t : TGs} {n : Nat} (hc : X.calm = true) (h : PGs X es t)
    (hn : (assignEach es X.env).length = n := by rfl) (hst : (assignEach es X.env).findIdx? (·.1) = none := by rfl) : PG X (.Tuple es k pos) (gTup X.K n t) := by
  intro pins s σ H v u Q I r hw
  obtain ⟨a, xs, e1, hq, hl, hw⟩ := hw
  subst e1
  cases r
  obtain ⟨its, rv, ht, hz⟩ := I.tuple hq
  refine assign_Tuple_tuple (I.ok.hd hc) ht (by simp [hn, ← hl, rv.length]) hst fun h' hx => ?_
  have I1 : Inv X pins σ H { s with heap := h' } := I.kept (t' := s.toks) fun b o e => hx b o (Nat.ne_of_lt (Heap.lt_size e)) e
  exact h pins _ σ H xs _ Q I1 (by simpa using rv) hw
/-- o[i] = .. -/
def gSub (to ti : TE) (t : TSet) : TG := fun v σ H Q => to σ H fun o H1 => ti σ H1 fun i H2 => t o i v H2 fun H3 => Q σ H3
/-- target = value -/
def tAsg (te : TE) (g : TG) : TS := fun D σ H => te σ H fun x H1 => g x σ H1 D.nx
/-- name = value -/
theorem ps_set {i : Nat} {x : Str} {e : Expr} {te : TE} {pos' : Pos} (hN : X.N.Nodup) (hi : X.N[i]? = some x) (hx : Loc X.env.scope x) (he : PE X e te) (hs : swapsWith e (some (.Name x pos')) pos.line X.env = pure false := by rfl) (hf : X.fn x = true ∨ X.env.scope.names.lookup x = some .local := by first | exact .inl rfl | exact .inr rfl | assumption) :
    PS X (.Assign [.Name x pos'] e pos) (tAsg te (gName i)) := by
  intro pins s σ H D I h
  refine wpAny_Assign_Name (thn (he pins s σ H _ I h) fun v s1 ⟨y, H1, I1, r1, q1⟩ => ?_) hs
  exact store_ok I1 hN hi hx r1 (fun s2 I2 => ⟨_, H1, I2, q1⟩) hf
/-- a, b = x, y with plain local names: stored from the right; the pair itself is not tracked (the opening rows as in PyProof/Rows/TupAssign.lean:23) -/
def tPar (i j : Nat) (ta : TA) : TS := fun D σ H => ta σ H fun vs H1 => ∃ v w, vs = [v, w] ∧ D.nx ((σ.set i (some v)).set j (some w)) H1
/-- name op= e -/
def tAug (i : Nat) (te : TE) (ti : TIp) : TS := fun D σ H => ∃ x, σ[i]? = some (some x) ∧ te σ H fun y H1 => ti x y H1 fun z H2 => D.nx (σ.set i (some z)) H2
/-- o[i] op= e -/
def tAugS (to ti te : TE) (tget : V → V → Hp → VK → Prop) (tip : TIp) (tset : TSet) : TS := fun D σ H => to σ H fun o H1 => ti σ H1 fun i H2 => tget o i H2 fun x H3 => te σ H3 fun y H4 => tip x y H4 fun z H5 => tset o i z H5 fun H6 => D.nx σ H6
/-- o[i], by values -/
def PGet (X : Cx) (t : V → V → Hp → VK → Prop) : Prop :=
  ∀ (pins : List (Addr × Obj)) (s : Shared) (σ : St) (H : Hp) (o i : V) (ov iv : Value) (Q : VK), Inv X pins σ H s → RelV o ov → RelV i iv → t o i H Q →
    wpAny (model X.prog X.w) X.A (getItem ov iv) (EP X pins σ Q) X.xe s
/-- ints -/
def ipI (f : Int → Int → Int) : TIp := fun x y H Q => ∃ i j, x = .int i ∧ y = .int j ∧ Q (.int (f i j)) H
end

/-! ### while -/
section
variable {X : Cx} {pos : Pos}
/-- the invariant W with its measure -/
def tWhile (c : TT) (tb : TS) : TS := fun D σ H => ∃ W : Nat → St → Hp → Prop, (∃ m, W m σ H) ∧ ∀ m σ H, W m σ H →
  c σ H fun b H1 => if b = true then ∃ N : St → Hp → Prop, (∀ σ' H', N σ' H' → ∃ m', m' < m ∧ W m' σ' H') ∧ tb { D with nx := N, ct := N, bk := D.nx } σ H1 else D.nx σ H1
end

/-! ### what a loop or a comprehension walks -/
/-- at turn i: it yields x (the heap may grow), or it stops -/
structure It where
  go : Nat → Hp → Prop
  yld : Nat → Hp → V → Hp → Prop
  stop : Nat → Hp → Prop
/-- the iterator's own objects may turn: they are not the frame's, not pinned, younger than the entry (or a comprehension's own) -/
def FpOk (X : Cx) (pins : List (Addr × Obj)) (H : Hp) (b : Addr) : Prop :=
  H b = none ∧ b ≠ X.env.locals ∧ b ∉ X.fs ∧ (b ∈ X.ex ∨ X.s₀.heap.objs.size ≤ b) ∧ (∀ x c, X.env.cells.lookup x = some c → c ≠ b) ∧ ∀ p ∈ X.pn ++ pins, p.1 ≠ b
theorem Inv.fpOk {X : Cx} {pins : List (Addr × Obj)} {σ : St} {H H' : Hp} {s : Shared} {b : Addr} (I : Inv X pins σ H s) (hb : s.heap.objs.size ≤ b) (hn : H' b = none) : FpOk X pins H' b := by
  refine ⟨hn, Nat.ne_of_gt (Nat.lt_of_lt_of_le I.lt hb), I.nofs hb, .inr (Nat.le_trans I.sz hb), fun x c e z => ?_, fun p hp z => ?_⟩
  · obtain ⟨v, q⟩ := I.cell x c e
    exact absurd (Nat.lt_of_lt_of_le q.lt (by rw [z]; exact hb)) (Nat.lt_irrefl _)
  · exact absurd (Nat.lt_of_lt_of_le (Heap.lt_size (I.pin p hp).1) (by rw [z]; exact hb)) (Nat.lt_irrefl _)
structure Turn (P : Program) (w : World) (K : PySem.W.Frag) (tg : Expr) (J : It) (fp : List Addr) (it : Addr) (tn : Nat → Heap → Prop) : Prop where
  mem : it ∈ fp
  obj : ∀ i h, tn i h → ∀ b ∈ fp, ∃ o, h.get? b = some o ∧ ∀ v, o.data ≠ .cell v
  keep : ∀ i h h', tn i h → (∀ b ∈ fp, ∀ o, h.get? b = some o → h'.get? b = some o) → tn i h'
  item : ∀ (X : Cx), X.prog = P → X.w = w → X.K = K → X.calm = true → ∀ (i : Nat) (pins : List (Addr × Obj)) (s : Shared) (σ : St) (H : Hp) (E : Value → Shared → Prop), Inv X pins σ H s → (∀ b ∈ fp, FpOk X pins H b) → tn i s.heap → J.go i H →
    wpAny (model P w) X.A (pyNext (.ref it)) (fun r s1 => ∃ u, r = some u ∧
      wpAny (model P w) X.A (letOwnedTupleGo tg (.ref it) u) (fun _ s2 => ∃ x H', Inv X pins σ H' s2 ∧ RelV x u ∧ J.yld i H x H' ∧ tn (i + 1) s2.heap ∧ ∀ b ∈ fp, H' b = none) E s1) E s
  done : ∀ (X : Cx), X.prog = P → X.w = w → X.K = K → X.calm = true → ∀ (i : Nat) (pins : List (Addr × Obj)) (s : Shared) (σ : St) (H : Hp) (E : Value → Shared → Prop), Inv X pins σ H s → (∀ b ∈ fp, FpOk X pins H b) → tn i s.heap → J.stop i H →
    wpAny (model P w) X.A (pyNext (.ref it)) (fun r s1 => r = none ∧ Inv X pins σ H s1) E s
  self : ∀ (A : Around) (i : Nat) (s : Shared) (Q : Value → Shared → Prop) (E : Value → Shared → Prop), tn i s.heap → Q (.ref it) s → wpAny (model P w) A (pyIter (.ref it)) Q E s
abbrev TI := St → Hp → (It → Hp → Prop) → Prop
/-- an iterator has come -/
def PIE (X : Cx) (pins : List (Addr × Obj)) (σ : St) (tg : Expr) (R : It → Hp → Prop) (itv : Value) (s2 : Shared) : Prop :=
  ∃ (it : Addr) (fp : List Addr) (tn : Nat → Heap → Prop) (J : It) (H' : Hp), itv = .ref it ∧ Inv X pins σ H' s2 ∧ Turn X.prog X.w X.K tg J fp it tn ∧ tn 0 s2.heap ∧ (∀ b ∈ fp, FpOk X pins H' b) ∧ R J H'
def PI (X : Cx) (tg iter : Expr) (wi : TI) : Prop :=
  ∀ (pins : List (Addr × Obj)) (s : Shared) (σ : St) (H : Hp) (R : It → Hp → Prop), Inv X pins σ H s → wi σ H R →
    wpAny (model X.prog X.w) X.A (eval iter X.env) (fun v s1 => wpAny (model X.prog X.w) X.A (pyIter v) (PIE X pins σ tg R) X.xe s1) X.xe s

/-- the step ahead of the store is nothing for an iterator that keeps no tuple -/
theorem go_of {M : Model} {A : Around} {E : Value → Shared → Prop} {s : Shared} {tg : Expr} {it : Addr} {u : Value} {o : Obj} {n : String} {vs : Array Value} {Q : Unit → Shared → Prop} (ho : s.heap.get? it = some o) (hc : o.cls = .type n) (hd : o.data = .fields vs)
    (hn : ["enumerate", "zip", "dict_itemiterator", "dict_reverseitemiterator", "odict_iterator", "itertools.zip_longest", "itertools.pairwise"].contains n = false) (hQ : Q () s) : wpAny M A (letOwnedTupleGo tg (.ref it) u) Q E s := by
  unfold letOwnedTupleGo
  cases tg <;> first
    | exact wpAny_pure hQ
    | (cases u <;> first
        | exact wpAny_pure hQ
        | (refine wpAny_bind (wpAny_load ho ?_)
           rw [hc, hd]
           show wpAny M A (if (["enumerate", "zip", "dict_itemiterator", "dict_reverseitemiterator", "odict_iterator", "itertools.zip_longest", "itertools.pairwise"].contains n && vs[0]? == some (rawInt _)) = true then _ else _) Q E s
           rw [if_neg (by intro h; rw [hn, Bool.false_and] at h; cases h)]
           exact wpAny_pure hQ))

/-- the list at a, as it stands at each turn (a loop may append to it) -/
def Itl (K : PySem.W.Frag) (a : Addr) : It :=
  ⟨fun i H => ∃ xs x, SqL K H a xs ∧ xs[i]? = some x, fun i H x H' => H' = H ∧ ∀ xs, SqL K H a xs → xs[i]? = some x, fun i H => ∃ xs, SqL K H a xs ∧ xs.length ≤ i⟩
def Itt (K : PySem.W.Frag) (a : Addr) : It :=
  ⟨fun i H => ∃ xs x, SqT K H a xs ∧ xs[i]? = some x, fun i H x H' => H' = H ∧ ∀ xs, SqT K H a xs → xs[i]? = some x, fun i H => ∃ xs, SqT K H a xs ∧ xs.length ≤ i⟩
/-- lo, lo + 1, .. (n of them) -/
def Itr (lo : Int) (n : Nat) : It := ⟨fun i _ => i < n, fun i H x H' => H' = H ∧ x = .int (lo + i), fun i _ => n ≤ i⟩
theorem turn_list {P : Program} {w : World} {K : PySem.W.Frag} {tg : Expr} (a it : Addr) : Turn P w K tg (Itl K a) [it] it (fun i h => h.IsListIter it a i) where
  mem := by simp
  obj := fun i h st b hb => by
    have e : b = it := by simpa using hb
    subst e
    obtain ⟨o, e, c, d⟩ := st
    exact ⟨o, e, fun v z => by rw [d] at z; cases z⟩
  keep := fun i h h' st k => st.at fun o e => k it (by simp) o e
  item := by
    intro X hP hw hK hc i pins s σ H E I hf st hg
    subst hP hw hK
    obtain ⟨xs, x, hq, hx⟩ := hg
    obtain ⟨its, rv, p, hz⟩ := I.list hq
    obtain ⟨u, hu, ru⟩ := rv.get hx
    obtain ⟨f0, f1, f2, f3, f4, f5⟩ := hf it (by simp)
    refine wpAny_pyNext_list_item st p.isList (x := u) (by simpa using hu) fun h' st' sb => ?_
    have I1 : Inv X pins σ H { s with heap := h' } := I.turned (t' := s.toks) (fun b o hb e => (sb.2 b hb).trans e) f0 f1 f3 f4 f5
    obtain ⟨o, e, c, d⟩ := id st'
    exact ⟨u, rfl, go_of (s := { s with heap := h' }) e c d (by decide) ⟨x, H, I1, ru, ⟨rfl, fun ys hy => by rw [I.list_inj hy hq]; exact hx⟩, st', fun b hb => (hf b hb).1⟩⟩
  done := by
    intro X hP hw hK hc i pins s σ H E I hf st hg
    subst hP hw hK
    obtain ⟨xs, hq, hx⟩ := hg
    obtain ⟨its, rv, p, hz⟩ := I.list hq
    obtain ⟨f0, f1, f2, f3, f4, f5⟩ := hf it (by simp)
    have hl := rv.length
    exact wpAny_pyNext_list_end (I.ok.hd hc) st p.isList (by simp; omega) fun h' eb => ⟨rfl, I.turned (t' := s.toks) (fun b o hb e => eb b o hb e) f0 f1 f3 f4 f5⟩
  self := fun _ _ _ _ _ st h => wpAny_pyIter_listiter st h
theorem turn_tuple {P : Program} {w : World} {K : PySem.W.Frag} {tg : Expr} (a it : Addr) : Turn P w K tg (Itt K a) [it] it (fun i h => h.IsTupleIter it a i) where
  mem := by simp
  obj := fun i h st b hb => by
    have e : b = it := by simpa using hb
    subst e
    obtain ⟨o, e, c, d⟩ := st
    exact ⟨o, e, fun v z => by rw [d] at z; cases z⟩
  keep := fun i h h' st k => st.at fun o e => k it (by simp) o e
  item := by
    intro X hP hw hK hc i pins s σ H E I hf st hg
    subst hP hw hK
    obtain ⟨xs, x, hq, hx⟩ := hg
    obtain ⟨its, rv, p, hz⟩ := I.tuple hq
    obtain ⟨u, hu, ru⟩ := rv.get hx
    obtain ⟨f0, f1, f2, f3, f4, f5⟩ := hf it (by simp)
    refine wpAny_pyNext_tuple_item st (show s.heap.IsTuple a its.toArray from p) (x := u) (by simpa using hu) fun h' st' sb => ?_
    have I1 : Inv X pins σ H { s with heap := h' } := I.turned (t' := s.toks) (fun b o hb e => (sb.2 b hb).trans e) f0 f1 f3 f4 f5
    obtain ⟨o, e, c, d⟩ := id st'
    exact ⟨u, rfl, go_of (s := { s with heap := h' }) e c d (by decide) ⟨x, H, I1, ru, ⟨rfl, fun ys hy => by rw [I.tuple_inj hy hq]; exact hx⟩, st', fun b hb => (hf b hb).1⟩⟩
  done := by
    intro X hP hw hK hc i pins s σ H E I hf st hg
    subst hP hw hK
    obtain ⟨xs, hq, hx⟩ := hg
    obtain ⟨its, rv, p, hz⟩ := I.tuple hq
    obtain ⟨f0, f1, f2, f3, f4, f5⟩ := hf it (by simp)
    have hl := rv.length
    exact wpAny_pyNext_tuple_end (I.ok.hd hc) st (show s.heap.IsTuple a its.toArray from p) (by simp; omega) fun h' eb => ⟨rfl, I.turned (t' := s.toks) (fun b o hb e => eb b o hb e) f0 f1 f3 f4 f5⟩
  self := fun _ _ _ _ _ st h => wpAny_pyIter_tupleiter st h
theorem turn_range {P : Program} {w : World} {K : PySem.W.Frag} {tg : Expr} (it : Addr) (lo : Int) (n : Nat) : Turn P w K tg (Itr lo n) [it] it (fun i h => IsRangeIter h it (lo + (i : Nat) * 1) ((n : Int) - (i : Nat)) 1) where
  mem := by simp
  obj := fun i h st b hb => by
    have e : b = it := by simpa using hb
    subst e
    exact ⟨_, st, fun v z => by
      have z' : Data.fields _ = Data.cell v := z
      cases z'⟩
  keep := fun i h h' st k => k it (by simp) _ st
  item := by
    intro X hP hw hK hc i pins s σ H E I hf st hg
    subst hP hw hK
    obtain ⟨f0, f1, f2, f3, f4, f5⟩ := hf it (by simp)
    have W := Walks.range (prog := X.prog) (w := X.w) (I.ok.hd hc) it lo 1 n
    refine W.item i s _ _ hg st fun v h' tk hv st' kk => ?_
    obtain ⟨t, rfl⟩ := hv
    have I1 : Inv X pins σ H { s with heap := h', toks := tk } := I.turned (fun b o hb e => kk b o (by simpa using hb) e) f0 f1 f3 f4 f5
    refine ⟨_, rfl, go_of (s := { s with heap := h', toks := tk }) (n := "range_iterator") st' rfl rfl (by decide) ⟨.int (lo + i), H, I1, ⟨t, ?_⟩, ⟨rfl, rfl⟩, st', fun b hb => (hf b hb).1⟩⟩
    rw [Int.mul_one]
  done := by
    intro X hP hw hK hc i pins s σ H E I hf st hg
    subst hP hw hK
    obtain ⟨f0, f1, f2, f3, f4, f5⟩ := hf it (by simp)
    exact wpAny_pyNext_range_end (I.ok.hd hc) st (by have : n ≤ i := hg; omega) fun h' eb => ⟨rfl, I.turned (t' := s.toks) (fun b o hb e => eb b o hb e) f0 f1 f3 f4 f5⟩
  self := fun _ _ _ _ _ st h => wpAny_pyIter_rangeiter st h
end L2

namespace L2
open PySem PySem.Spec PyProof.Rows
section
variable {X : Cx} {tg : Expr}
def iList (K : PySem.W.Frag) (tl : TE) : TI := fun σ H R => tl σ H fun x H1 => ∃ a, x = .ref a ∧ (∃ xs, SqL K H1 a xs) ∧ R (Itl K a) H1
def iTup (K : PySem.W.Frag) (tl : TE) : TI := fun σ H R => tl σ H fun x H1 => ∃ a, x = .ref a ∧ (∃ xs, SqT K H1 a xs) ∧ R (Itt K a) H1
/-- a range object just made, walked -/
theorem range_it {pins : List (Addr × Obj)} {σ : St} {H : Hp} {s : Shared} {R : It → Hp → Prop} {E : Value → Shared → Prop} {lo hi : Int} {t u v : Tok} {tk : Nat} (I : Inv X pins σ H s) (h1 : -(2 ^ 62) ≤ lo) (h2 : lo < 2 ^ 62) (h3 : -(2 ^ 62) ≤ hi) (h4 : hi < 2 ^ 62)
    (q : R (Itr lo (hi - lo).toNat) H) : wpAny (model X.prog X.w) X.A (pyIter (.ref s.heap.objs.size)) (PIE X pins σ tg R) E { s with heap := s.heap.push { cls := .type "range", data := .fields #[.int lo t, .int hi u, .int 1 v] }, toks := tk } := by
  refine wpAny_pyIter_range (IsRange.new ..) (small_one h1 h2 h3 h4) ?_
  have I1 : Inv X pins σ H { s with heap := s.heap.push { cls := .type "range", data := .fields #[.int lo t, .int hi u, .int 1 v] }, toks := tk } := I.kept fun b o e => Heap.get?_push_of_some _ e
  refine ⟨(s.heap.push { cls := .type "range", data := .fields #[.int lo t, .int hi u, .int 1 v] }).objs.size, [(s.heap.push { cls := .type "range", data := .fields #[.int lo t, .int hi u, .int 1 v] }).objs.size], _, _, H, rfl,
    I1.kept (t' := tk) fun b o e => Heap.get?_push_of_some _ e, turn_range _ lo (hi - lo).toNat, ?_, fun b hb => ?_, q⟩
  · have e1 : lo + ((0 : Nat) : Int) * 1 = lo := by simp
    have e2 : (((hi - lo).toNat : Nat) : Int) - ((0 : Nat) : Int) = Builtin.Range.rangeSize lo hi 1 := by rw [rangeSize_one]; split <;> omega
    show IsRangeIter _ _ (lo + ((0 : Nat) : Int) * 1) ((((hi - lo).toNat : Nat) : Int) - ((0 : Nat) : Int)) 1
    rw [e1, e2]
    exact Heap.get?_push_size _ rfl
  · have e : b = (s.heap.push { cls := .type "range", data := .fields #[.int lo t, .int hi u, .int 1 v] }).objs.size := by simpa using hb
    subst e
    exact I1.fpOk (Nat.le_refl _) (I1.hok.fresh (Nat.le_refl _))
def iRng1 (ta : TA) : TI := fun σ H R => ta σ H fun vs H1 => ∃ j : Int, vs = [.int j] ∧ -(2 ^ 62) ≤ j ∧ j < 2 ^ 62 ∧ R (Itr 0 j.toNat) H1
def iRng2 (ta : TA) : TI := fun σ H R => ta σ H fun vs H1 => ∃ i j : Int, vs = [.int i, .int j] ∧ (-(2 ^ 62) ≤ i ∧ i < 2 ^ 62 ∧ -(2 ^ 62) ≤ j ∧ j < 2 ^ 62) ∧ R (Itr i (j - i).toNat) H1
theorem pi_range1 {a : Expr} {ta : TA} {p pos : Pos} (hg : Gl X "range") (hm : X.mg "range" = none) (ha : PA X [a] ta) (hs : starEach [a] X.env = [(false, eval a X.env)] := by rfl) : PI X tg (.Call (.Name "range" p) [a] [] pos) (iRng1 ta) := by
  intro pins s σ H R I h
  refine Call_ (ld_blt I hg hm boot_range (PyProof.Rows.callWith_type1 (thn (ha pos pins s σ H _ I h) fun us s1 ⟨vs, H1, I1, r1, q1⟩ => ?_) hs rfl))
  obtain ⟨j, e, q1, q2, q⟩ := q1
  subst e
  cases r1 with
  | cons r rr =>
    cases rr
    obtain ⟨t, rfl⟩ := r
    exact call_range_1 (range_it I1 (by omega) (by omega) q1 q2 (by simpa using q))
/-! ### for -/
/-- W: the invariant by the turn and a measure; N: what the body is to reach -/
def tFor (wi : TI) (g : TG) (tb : TS) : TS := fun D σ H => wi σ H fun J H1 => ∃ W : Nat → Nat → St → Hp → Prop, (∃ m, W 0 m σ H1) ∧ ∀ i m σ H, W i m σ H →
  (J.stop i H ∧ D.nx σ H) ∨ (J.go i H ∧ ∃ N : St → Hp → Prop, (∀ σ' H', N σ' H' → ∃ m', m' < m ∧ W (i + 1) m' σ' H') ∧ ∀ x H', J.yld i H x H' → g x σ H' fun σ2 H2 => tb { D with nx := N, ct := N, bk := D.nx } σ2 H2)
/-- the records at fp as they stand -/
def pinsAt (fp : List Addr) (h : Heap) : List (Addr × Obj) := fp.filterMap fun b => (h.get? b).map fun o => (b, o)
theorem mem_pinsAt {fp : List Addr} {h : Heap} {b : Addr} {o : Obj} (hb : b ∈ fp) (e : h.get? b = some o) : (b, o) ∈ pinsAt fp h := List.mem_filterMap.mpr ⟨b, hb, by rw [e]; rfl⟩
theorem of_pinsAt {fp : List Addr} {h : Heap} {p : Addr × Obj} (hp : p ∈ pinsAt fp h) : p.1 ∈ fp ∧ h.get? p.1 = some p.2 := by
  obtain ⟨b, hb, e⟩ := List.mem_filterMap.mp hp
  cases q : h.get? b with
  | none => rw [q] at e; cases e
  | some o =>
    rw [q] at e
    have e' : (b, o) = p := Option.some.inj e
    subst e'
    exact ⟨hb, q⟩
theorem Inv.pinned {pins : List (Addr × Obj)} {σ : St} {H : Hp} {s : Shared} {fp : List Addr} (I : Inv X pins σ H s) (hf : ∀ b ∈ fp, FpOk X pins H b) (ho : ∀ b ∈ fp, ∃ o, s.heap.get? b = some o ∧ ∀ v, o.data ≠ .cell v) : Inv X (pins ++ pinsAt fp s.heap) σ H s :=
  I.pins_of fun p hp => (List.mem_append.mp hp).elim (fun z => I.pin p (List.mem_append_right _ z)) fun z => by
    obtain ⟨hb, e⟩ := of_pinsAt z
    obtain ⟨f0, f1, f2, _⟩ := hf p.1 hb
    obtain ⟨o, e', d⟩ := ho p.1 hb
    rw [e] at e'; cases e'
    exact ⟨e, f0, f1, f2, d⟩
theorem Inv.unpinned {pins pl : List (Addr × Obj)} {σ : St} {H : Hp} {s : Shared} (I : Inv X (pins ++ pl) σ H s) : Inv X pins σ H s := I.pins_of fun p hp => I.pin p (List.mem_append_right _ (List.mem_append_left _ hp))
theorem ps_for {iter : Expr} {body : List Stmt} {wi : TI} {g : TG} {tb : TS} {pos : Pos} (hp : PassesOwn (model X.prog X.w) X.A X.env X.xe) (hc : X.calm = true) (hi : PI X tg iter wi) (hg : PG X tg g) (hb : PSs X body tb)
    (hs : ∀ x, foldedSetIterable iter X.env x = pure x := by intro _; rfl) : PS X (.For tg iter body [] pos) (tFor wi g tb) := by
  intro pins s σ H D I h
  refine wpAny_For (thn (hi pins s σ H _ I h) fun v s1 h1 => thn h1 fun itv s2 h2 => ?_) hs
  obtain ⟨it, fp, tn, J, H2, e, I2, T, st2, f2, W, ⟨m0, w0⟩, turn⟩ := h2
  subst e
  -- what stays true of the iterator's objects through the loop
  have stat : ∀ {H' : Hp}, (∀ b ∈ fp, H' b = none) → ∀ b ∈ fp, FpOk X pins H' b := fun hn b hb => ⟨hn b hb, (f2 b hb).2⟩
  refine codeAny_forLoop_any (fun n s' => ∃ i σ' H', Inv X pins σ' H' s' ∧ tn i s'.heap ∧ (∀ b ∈ fp, H' b = none) ∧ W i n σ' H') ?_ m0 ⟨0, σ, H2, I2, st2, fun b hb => (f2 b hb).1, w0⟩
  rintro n s3 ⟨i, σ3, H3, I3, st3, fr3, w3⟩
  rcases turn i n σ3 H3 w3 with ⟨stop, qn⟩ | ⟨go, N, hN, step⟩
  · refine wpAny_passesOwn hp (thn (T.done X rfl rfl rfl hc i pins s3 σ3 H3 X.xe I3 (stat fr3) st3 stop) fun r s4 ⟨hr, I4⟩ => ?_)
    subst hr
    exact wpAny_execs_nil ⟨σ3, H3, I4, qn⟩
  · refine wpAny_passesOwn hp (thn (T.item X rfl rfl rfl hc i pins s3 σ3 H3 X.xe I3 (stat fr3) st3 go) fun r s4 ⟨u, hr, h4⟩ => ?_)
    subst hr
    refine wpAny_passesOwn hp (thn h4 fun _ s5 ⟨x, H5, I5, r5, y5, st5, fr5⟩ => ?_)
    have I5' := I5.pinned (stat fr5) (T.obj _ _ st5)
    refine wpAny_passesOwn hp (thn (hg _ s5 σ3 H5 x u _ I5' r5 (step x H5 y5)) fun _ s6 ⟨σ6, H6, I6, q6⟩ => ?_)
    refine wpAny_passesOwn hp (thn (hb _ s6 σ6 H6 _ I6 q6) fun f s7 q7 => ?_)
    have again : ∀ {σ7 : St} {H7 : Hp}, Inv X (pins ++ pinsAt fp s5.heap) σ7 H7 s7 → N σ7 H7 → ∃ m, m < n ∧ ∃ i σ' H', Inv X pins σ' H' s7 ∧ tn i s7.heap ∧ (∀ b ∈ fp, H' b = none) ∧ W i m σ' H' := fun {σ7 H7} I7 n7 => by
      obtain ⟨m', hm, w7⟩ := hN σ7 H7 n7
      refine ⟨m', hm, i + 1, σ7, H7, I7.unpinned, T.keep _ _ _ st5 fun b hb o e => (I7.pin (b, o) (List.mem_append_right _ (List.mem_append_right _ (mem_pinsAt hb e)))).1, fun b hb => ?_, w7⟩
      obtain ⟨o, e, d⟩ := T.obj _ _ st5 b hb
      exact (I7.pin (b, o) (List.mem_append_right _ (List.mem_append_right _ (mem_pinsAt hb e)))).2.1
    cases f with
    | next => obtain ⟨σ7, H7, I7, n7⟩ := q7; exact again I7 n7
    | cont => obtain ⟨σ7, H7, I7, n7⟩ := q7; exact again I7 n7
    | brk => obtain ⟨σ7, H7, I7, q7⟩ := q7; exact ⟨σ7, H7, I7.unpinned, q7⟩
    | ret v => obtain ⟨x7, σ7, H7, I7, r7, q7⟩ := q7; exact ⟨x7, σ7, H7, I7.unpinned, r7, q7⟩
end

/-! ### the forms one uses -/
end L2

namespace L2
open PySem PySem.Spec PyProof.Rows

abbrev R2 := V → V → Hp → VK → Prop
/-- a two-place operation on values: f is binaryOp op, inplaceOp op or compareOp op -/
def OpR (X : Cx) (f : Value → Value → Sem Value) (r : R2) : Prop :=
  ∀ (pins : List (Addr × Obj)) (s : Shared) (σ : St) (H : Hp) (x y : V) (v u : Value) (Q : VK), Inv X pins σ H s → RelV x v → RelV y u → r x y H Q →
    wpAny (model X.prog X.w) X.A (f v u) (EP X pins σ Q) X.xe s
/-- a one-place operation -/
def UnR (X : Cx) (f : Value → Sem Value) (r : V → Hp → VK → Prop) : Prop :=
  ∀ (pins : List (Addr × Obj)) (s : Shared) (σ : St) (H : Hp) (x : V) (v : Value) (Q : VK), Inv X pins σ H s → RelV x v → r x H Q →
    wpAny (model X.prog X.w) X.A (f v) (EP X pins σ Q) X.xe s
/-- a call of a value that is known (a builtin, a type) with values -/
def CallR (X : Cx) (f : Value) (r : List V → Hp → VK → Prop) : Prop :=
  ∀ (pins : List (Addr × Obj)) (s : Shared) (σ : St) (H : Hp) (xs : List V) (us : List Value) (Q : VK), Inv X pins σ H s → Vals xs us → r xs H Q →
    wpAny (model X.prog X.w) X.A (call f us) (EP X pins σ Q) X.xe s
/-- a value's truth -/
def TruR (X : Cx) (r : V → Hp → (Bool → Hp → Prop) → Prop) : Prop :=
  ∀ (pins : List (Addr × Obj)) (s : Shared) (σ : St) (H : Hp) (x : V) (v : Value) (Q : Bool → Hp → Prop), Inv X pins σ H s → RelV x v → r x H Q →
    wpAny (model X.prog X.w) X.A (truthy v) (TP X pins σ Q) X.xe s

def tOp (r : R2) (ta tb : TE) : TE := fun σ H Q => ta σ H fun x H1 => tb σ H1 fun y H2 => r x y H2 Q
def tUn (r : V → Hp → VK → Prop) (ta : TE) : TE := fun σ H Q => ta σ H fun x H1 => r x H1 Q
/-- ints in, under C, and a value out -/
def rI (C : Int → Int → Prop) (g : Int → Int → V) : R2 := fun x y H Q => ∃ i j, x = .int i ∧ y = .int j ∧ C i j ∧ Q (g i j) H
def rI0 (g : Int → Int → V) : R2 := fun x y H Q => ∃ i j, x = .int i ∧ y = .int j ∧ Q (g i j) H
def rU (g : Int → V) : V → Hp → VK → Prop := fun x H Q => ∃ i, x = .int i ∧ Q (g i) H

section
variable {X : Cx} {a b c : Expr} {ta tb tc : TE} {pos : Pos}

theorem binT (ha : PE X a ta) (hb : PE X b tb) {pins : List (Addr × Obj)} {s : Shared} {σ : St} {H : Hp} {R : V → V → Hp → Prop} (I : Inv X pins σ H s)
    (h : ta σ H fun x H1 => tb σ H1 fun y H2 => R x y H2) {Q : Value → Shared → Prop} {f : Value → Value → Sem Value}
    (hf : ∀ v u s2 x y H2, Inv X pins σ H2 s2 → RelV x v → RelV y u → R x y H2 → wpAny (model X.prog X.w) X.A (f v u) Q X.xe s2) :
    wpAny (model X.prog X.w) X.A (eval a X.env) (fun v s₁ => wpAny (model X.prog X.w) X.A (eval b X.env) (fun u s₂ => wpAny (model X.prog X.w) X.A (f v u) Q X.xe s₂) X.xe s₁) X.xe s := by
  refine thn (ha pins s σ H _ I h) fun v s1 ⟨x, H1, I1, r1, q1⟩ => ?_
  refine thn (hb pins s1 σ H1 _ I1 q1) fun u s2 ⟨y, H2, I2, r2, q2⟩ => ?_
  exact hf v u s2 x y H2 I2 r1 r2 q2

theorem pe_op {op : Operator} {r : R2} (ho : OpR X (binaryOp op) r) (ha : PE X a ta) (hb : PE X b tb) : PE X (.BinOp a op b pos) (tOp r ta tb) := by
  intro pins s σ H Q I h
  exact wpAny_BinOp (binT ha hb I h fun v u s2 x y H2 I2 rx ry q => ho pins s2 σ H2 x y v u Q I2 rx ry q)
theorem pe_un {op : UnaryOp} {r : V → Hp → VK → Prop} (ho : UnR X (unaryOp op) r) (ha : PE X a ta) : PE X (.UnaryOp op a pos) (tUn r ta) := by
  intro pins s σ H Q I h
  exact UnaryOp_ (thn (ha pins s σ H _ I h) fun v s1 ⟨x, H1, I1, r1, q1⟩ => ho pins s1 σ H1 x v Q I1 r1 q1)
/-! ### ints -/
theorem opI {f : Value → Value → Sem Value} {C : Int → Int → Prop} {g : Int → Int → Int}
    (rule : ∀ (i j : Int) (t u : Tok) (s : Shared) (Q : Value → Shared → Prop) (E : Value → Shared → Prop), C i j → Q (.int (g i j) s.toks) { s with toks := s.toks + 1 } → wpAny (model X.prog X.w) X.A (f (.int i t) (.int j u)) Q E s) :
    OpR X f (rI C fun i j => .int (g i j)) := by
  intro pins s σ H x y v u Q I rx ry h
  obtain ⟨i, j, rfl, rfl, hc, q⟩ := h
  obtain ⟨t, rfl⟩ := rx
  obtain ⟨t', rfl⟩ := ry
  exact rule i j t t' s _ _ hc ⟨.int (g i j), H, I.tok _, ⟨_, rfl⟩, q⟩
theorem opI0 {f : Value → Value → Sem Value} {g : Int → Int → Int}
    (rule : ∀ (i j : Int) (t u : Tok) (s : Shared) (Q : Value → Shared → Prop) (E : Value → Shared → Prop), Q (.int (g i j) s.toks) { s with toks := s.toks + 1 } → wpAny (model X.prog X.w) X.A (f (.int i t) (.int j u)) Q E s) :
    OpR X f (rI0 fun i j => .int (g i j)) := by
  intro pins s σ H x y v u Q I rx ry h
  obtain ⟨i, j, rfl, rfl, q⟩ := h
  obtain ⟨t, rfl⟩ := rx
  obtain ⟨t', rfl⟩ := ry
  exact rule i j t t' s _ _ ⟨.int (g i j), H, I.tok _, ⟨_, rfl⟩, q⟩
theorem opB0 {f : Value → Value → Sem Value} {g : Int → Int → Bool}
    (rule : ∀ (i j : Int) (t u : Tok) (s : Shared) (Q : Value → Shared → Prop) (E : Value → Shared → Prop), Q (.bool (g i j)) s → wpAny (model X.prog X.w) X.A (f (.int i t) (.int j u)) Q E s) :
    OpR X f (rI0 fun i j => .bl (g i j)) := by
  intro pins s σ H x y v u Q I rx ry h
  obtain ⟨i, j, rfl, rfl, q⟩ := h
  obtain ⟨t, rfl⟩ := rx
  obtain ⟨t', rfl⟩ := ry
  exact rule i j t t' s _ _ ⟨.bl (g i j), H, I, rfl, q⟩

def CDiv (i j : Int) : Prop := 0 < j ∧ j < 1073741824
def CDivN (i j : Int) : Prop := j ≠ 0 ∧ j.natAbs < 1073741824
def CPow (i j : Int) : Prop := 0 ≤ j ∧ j ≤ 1000000 ∧ i.natAbs < 2 ^ 64
def CMul (i j : Int) : Prop := (-(2 ^ 64) < i ∧ i < 2 ^ 64) ∨ (-(2 ^ 64) < j ∧ j < 2 ^ 64)
theorem CMul.ok {i j : Int} (h : CMul i j) : IntMulOk i j := by
  rcases h with ⟨h1, h2⟩ | ⟨h1, h2⟩
  · exact .of_left (intBits_le_64 h1 h2)
  · exact .of_right (intBits_le_64 h1 h2)
theorem op_add : OpR X (binaryOp .Add) (rI0 fun i j => .int (i + j)) := opI0 fun _ _ _ _ _ _ _ q => add_int q
theorem op_sub : OpR X (binaryOp .Sub) (rI0 fun i j => .int (i - j)) := opI0 fun _ _ _ _ _ _ _ q => sub_int q
theorem op_mul : OpR X (binaryOp .Mult) (rI CMul fun i j => .int (i * j)) := opI fun _ _ _ _ _ _ _ hc q => mul_int q hc.ok
/-- // by a positive divisor -/
theorem op_fdiv : OpR X (binaryOp .FloorDiv) (rI CDiv fun i j => .int (i / j)) := opI fun i j _ _ _ _ _ hc q => by
  have h1 : (0 : Int) < j := hc.1
  have h2 : j < 1073741824 := hc.2
  exact floordiv_int (by omega) (by rw [Int.fdiv_eq_ediv_of_nonneg i (by omega)]; exact q) (.inl (PyProof.noPylong_small (by omega)))
/-- % by a positive divisor of any size -/
theorem op_mod : OpR X (binaryOp .Mod) (rI (fun _ j => 0 < j) fun i j => .int (i % j)) := opI fun i j _ _ _ _ _ hc q => by
  have h1 : (0 : Int) < j := hc
  exact mod_int' (by omega) (by rw [Int.fmod_eq_emod_of_nonneg i (by omega)]; exact q)
theorem unI {f : Value → Sem Value} {g : Int → Int}
    (rule : ∀ (i : Int) (t : Tok) (s : Shared) (Q : Value → Shared → Prop) (E : Value → Shared → Prop), Q (.int (g i) s.toks) { s with toks := s.toks + 1 } → wpAny (model X.prog X.w) X.A (f (.int i t)) Q E s) :
    UnR X f (rU fun i => .int (g i)) := by
  intro pins s σ H x v Q I rx h
  obtain ⟨i, rfl, q⟩ := h
  obtain ⟨t, rfl⟩ := rx
  exact rule i t s _ _ ⟨.int (g i), H, I.tok _, ⟨_, rfl⟩, q⟩
theorem un_neg : UnR X (unaryOp .USub) (rU fun i => .int (-i)) := unI fun _ _ _ _ _ q => neg_int q
/-! ### bools among ints: n += (a < b) -/
end

/-! ### comparisons -/
/-- the scalars that == tells apart as data does -/
def scal : V → V → Bool
  | .non, .non => true | .non, .int _ => true | .int _, .non => true | .non, .bl _ => true | .bl _, .non => true | .non, .str _ => true | .str _, .non => true
  | .int _, .int _ => true | .bl _, .bl _ => true | .str _, .str _ => true | .byt _, .byt _ => true
  | .int _, .str _ => true | .str _, .int _ => true | .bl _, .str _ => true | .str _, .bl _ => true
  | _, _ => false
def rEq : R2 := fun x y H Q => scal x y = true ∧ Q (.bl (decide (x = y))) H
def rNe : R2 := fun x y H Q => scal x y = true ∧ Q (.bl (!decide (x = y))) H

section
variable {X : Cx} {a b c : Expr} {ta tb tc : TE} {pos : Pos}
theorem fin_bl {pins : List (Addr × Obj)} {σ : St} {H : Hp} {s : Shared} {Q : VK} {k k' : Bool} (I : Inv X pins σ H s) (q : Q (.bl k) H) (e : k = k') : EP X pins σ Q (.bool k') s := by
  subst e
  exact ⟨.bl k, H, I, rfl, q⟩
theorem op_lt : OpR X (compareOp .Lt) (rI0 fun i j => .bl (decide (i < j))) := opB0 fun _ _ _ _ _ _ _ q => lt_int q
theorem op_lt_str : OpR X (compareOp .Lt) (fun x y H Q => ∃ i j, x = .str i ∧ y = .str j ∧ Q (.bl (decide (i.cps.toList < j.cps.toList))) H) := by
  intro pins s σ H x y v u Q I rx ry h
  obtain ⟨i, j, rfl, rfl, q⟩ := h
  obtain ⟨t, rfl⟩ := rx
  obtain ⟨t', rfl⟩ := ry
  exact lt_str (fin_bl I q rfl)
/-- is, is not of two objects that are tracked lists or instances -/
def isObj : HO → Bool
  | .lst _ => true
  | .ins _ _ _ => true
  | _ => false
/-- two rules for one operation: by cases -/
theorem OpR.or {f : Value → Value → Sem Value} {r r' : R2} (h : OpR X f r) (h' : OpR X f r') : OpR X f (fun x y H Q => r x y H Q ∨ r' x y H Q) := by
  intro pins s σ H x y v u Q I rx ry q
  rcases q with q | q
  · exact h pins s σ H x y v u Q I rx ry q
  · exact h' pins s σ H x y v u Q I rx ry q

theorem nomark (b : Expr) {op : CmpOp} (h : op ≠ .In := by decide) (h2 : op ≠ .NotIn := by decide) : behindInMarks op b = false := by
  have e1 : (op == CmpOp.In) = false := by cases op <;> first | rfl | exact absurd rfl h
  have e2 : (op == CmpOp.NotIn) = false := by cases op <;> first | rfl | exact absurd rfl h2
  cases b <;> simp [behindInMarks, e1, e2]
/-- a comparison as a value; hm: nomark b, or (for in, not in) by with_unfolding_all rfl -/
theorem pe_cmpR {op : CmpOp} {r : R2} (ho : OpR X (compareOp op) r) (ha : PE X a ta) (hb : PE X b tb) (hm : behindInMarks op b = false) : PE X (.Compare a [op] [b] pos) (tOp r ta tb) := by
  intro pins s σ H Q I h
  exact wpAny_Compare1 (binT ha hb I h fun v u s2 x y H2 I2 rx ry q => ho pins s2 σ H2 x y v u Q I2 rx ry q) hm
/-- a reading of a value as a test -/
def tTest (t : TE) : TT := fun σ H Q => t σ H fun x H' => ∃ k, x = .bl k ∧ Q k H'
theorem pt_cmpR {op : CmpOp} {r : R2} (ho : OpR X (compareOp op) r) (ha : PE X a ta) (hb : PE X b tb) (hm : behindInMarks op b = false) : PT X (.Compare a [op] [b] pos) (tTest (tOp r ta tb)) := by
  intro pins s σ H Q I h
  refine wpAny_isTrue_Compare1 (thn (ha pins s σ H _ I h) fun v s1 ⟨x, H1, I1, r1, q1⟩ => thn (hb pins s1 σ H1 _ I1 q1) fun u s2 ⟨y, H2, I2, r2, q2⟩ =>
    thn (ho pins s2 σ H2 x y v u _ I2 r1 r2 q2) fun c s3 ⟨z, H3, I3, r3, k, e, q3⟩ => ?_) hm
  subst e
  cases r3
  exact wpAny_truthy_bool ⟨H3, I3, q3⟩
/-- a op1 b op2 c -/
def tChain (r r' : R2) (ta tb tc : TE) : TE := fun σ H Q => ta σ H fun x H1 => tb σ H1 fun y H2 => r x y H2 fun z H3 => ∃ k, z = .bl k ∧
  (if k = true then tc σ H3 fun w' H4 => r' y w' H4 Q else Q (.bl false) H3)
/-! ### truth -/
/-- a value's truth by the abstract heap -/
def TruV (K : PySem.W.Frag) (x : V) (H : Hp) (k : Bool) : Prop :=
  match x with
  | .non => k = false
  | .bl b => k = b
  | .int i => k = (i != 0)
  | .str y => y.length ≤ sizeLine ∧ k = ((y.length : Int) != 0)
  | .byt y => y.size ≤ sizeLine ∧ k = ((y.size : Int) != 0)
  | .ref p => (∃ xs, SqL K H p xs ∧ k = !xs.isEmpty) ∨ (∃ xs, SqT K H p xs ∧ k = !xs.isEmpty) ∨ ∃ kvs, H p = some (.dK kvs) ∧ k = !kvs.isEmpty
  | _ => False
theorem isEmpty_kv {κ : Type} {kvs : List (κ × V)} {vs : List (κ × Value)} (r : KV kvs vs) : (!vs.isEmpty) = !kvs.isEmpty := by
  cases r <;> rfl
theorem isEmpty_of {xs : List V} {its : List Value} (r : Vals xs its) : (!its.toArray.isEmpty) = !xs.isEmpty := by
  cases r <;> simp
theorem line63 : (sizeLine : Nat) < 2 ^ 63 := by rw [sizeLine_eq]; decide
theorem tru_ok : TruR X (fun x H Q => ∃ k, TruV X.K x H k ∧ Q k H) := by
  intro pins s σ H x v Q I rx h
  obtain ⟨k, e, q⟩ := h
  have hl := line63
  have hs : sizeLine = 16777216 := sizeLine_eq
  cases x with
  | non =>
    cases rx
    have e' : k = false := e
    subst e'
    exact truthy_none ⟨H, I, q⟩
  | bl b =>
    cases rx
    have e' : k = b := e
    subst e'
    exact wpAny_truthy_bool ⟨H, I, q⟩
  | int i =>
    obtain ⟨t, rfl⟩ := rx
    have e' : k = (i != 0) := e
    subst e'
    exact PySem.P.truthy_int ⟨H, I, q⟩
  | str y =>
    obtain ⟨t, rfl⟩ := rx
    obtain ⟨hy, e'⟩ : y.length ≤ sizeLine ∧ k = ((y.length : Int) != 0) := e
    subst e'
    exact PySem.P.truthy_str (by omega) ⟨H, I.tok _, q⟩
  | byt y =>
    obtain ⟨t, rfl⟩ := rx
    obtain ⟨hy, e'⟩ : y.size ≤ sizeLine ∧ k = ((y.size : Int) != 0) := e
    subst e'
    exact PySem.W.truthy_bytes (by omega) ⟨H, I.tok _, q⟩
  | ref p =>
    cases rx
    have e' : (∃ xs, SqL X.K H p xs ∧ k = !xs.isEmpty) ∨ (∃ xs, SqT X.K H p xs ∧ k = !xs.isEmpty) ∨ ∃ kvs, H p = some (.dK kvs) ∧ k = !kvs.isEmpty := e
    rcases e' with ⟨xs, hx, e'⟩ | ⟨xs, hx, e'⟩ | ⟨kvs, hx, e'⟩
    · subst e'
      obtain ⟨its, r, pl, hz⟩ := I.list hx
      have hlen := r.length
      exact wpAny_truthy_list pl.isList (by simp only [List.size_toArray]; omega) ⟨H, I.tok _, by rw [isEmpty_of r]; exact q⟩
    · subst e'
      obtain ⟨its, r, pl, hz⟩ := I.tuple hx
      have hlen := r.length
      exact truthy_tuple pl (by simp only [List.size_toArray]; omega) ⟨H, I.tok _, by rw [isEmpty_of r]; exact q⟩
    · subst e'
      obtain ⟨hz, hS, vs, r, m⟩ : kvs.length ≤ sizeLine ∧ (p == sysModules) = false ∧ ∃ vs, KV kvs vs ∧ s.heap.DictOf (mixKind X.prog X.w) p vs := I.hok p _ hx
      have hlen : kvs.length = vs.length := Paired.length r
      exact wpAny_truthy_dict hS m (by omega) ⟨H, I.tok _, by rw [isEmpty_kv r]; exact q⟩
  | _ => exact (show False from e).elim
/-- any expression whose test is its value's truth (a name, a call, a subscript, a field ..: he by fun _ => rfl) -/
theorem pt_truth (ha : PE X a ta) (he : ∀ whole, isTrue a X.env whole = (do let v ← whole; standAt a.pos; holding [v] (truthy v))) :
    PT X a (fun σ H Q => ta σ H fun x H' => ∃ k, TruV X.K x H' k ∧ Q k H') := by
  intro pins s σ H Q I h
  exact isTrue_plain (thn (ha pins s σ H _ I h) fun v s1 ⟨x, H1, I1, r1, q1⟩ => tru_ok pins s1 σ H1 x v Q I1 r1 q1) (he _)

/-! ### strs and bytes -/
theorem op_add_str : OpR X (binaryOp .Add) (fun x y H Q => ∃ i j, x = .str i ∧ y = .str j ∧ i.length + j.length ≤ sizeLine ∧ Q (.str (i ++ j)) H) := by
  intro pins s σ H x y v u Q I rx ry h
  obtain ⟨i, j, rfl, rfl, hz, q⟩ := h
  obtain ⟨t, rfl⟩ := rx
  obtain ⟨t', rfl⟩ := ry
  exact add_str (fun t' tk => ⟨.str (i ++ j), H, I.tok _, ⟨_, rfl⟩, q⟩) hz
def PlainIxT (b : Expr) : Prop := ∀ o i, subscripted b false o i = operate [o, i] (getItem o i)
/-! ### scalar builtins, by CallR -/
theorem vals1 {x : V} {us : List Value} (r : Vals [x] us) : ∃ u, us = [u] ∧ RelV x u := by
  cases r with
  | cons r1 r2 => cases r2; exact ⟨_, rfl, r1⟩
theorem vals2 {x y : V} {us : List Value} (r : Vals [x, y] us) : ∃ u w', us = [u, w'] ∧ RelV x u ∧ RelV y w' := by
  cases r with
  | cons r1 r2 =>
    cases r2 with
    | cons r3 r4 => cases r4; exact ⟨_, _, rfl, r1, r3⟩
theorem call_max2 (hc : X.calm = true) : CallR X (.builtin "max") (fun xs H Q => ∃ i j, xs = [.int i, .int j] ∧ Q (.int (if j > i then j else i)) H) := by
  intro pins s σ H xs us Q I r h
  obtain ⟨i, j, rfl, q⟩ := h
  obtain ⟨u, w', rfl, ⟨t, rfl⟩, ⟨t', rfl⟩⟩ := vals2 r
  refine max_two_ints (I.ok.hd hc) fun h' tk k => ⟨_, H, I.kept k, ?_, q⟩
  by_cases hj : j > i
  · rw [if_pos hj, if_pos hj]; exact ⟨_, rfl⟩
  · rw [if_neg hj, if_neg hj]; exact ⟨_, rfl⟩
theorem call_min2 (hc : X.calm = true) : CallR X (.builtin "min") (fun xs H Q => ∃ i j, xs = [.int i, .int j] ∧ Q (.int (if j < i then j else i)) H) := by
  intro pins s σ H xs us Q I r h
  obtain ⟨i, j, rfl, q⟩ := h
  obtain ⟨u, w', rfl, ⟨t, rfl⟩, ⟨t', rfl⟩⟩ := vals2 r
  refine min_two_ints (I.ok.hd hc) fun h' tk k => ⟨_, H, I.kept k, ?_, q⟩
  by_cases hj : j < i
  · rw [if_pos hj, if_pos hj]; exact ⟨_, rfl⟩
  · rw [if_neg hj, if_neg hj]; exact ⟨_, rfl⟩
/-- len of a str, a bytes, a list, a tuple -/
def LenV (K : PySem.W.Frag) (x : V) (H : Hp) (n : Nat) : Prop :=
  match x with
  | .str y => y.length ≤ sizeLine ∧ n = y.length
  | .byt y => y.size ≤ sizeLine ∧ n = y.size
  | .ref p => (∃ xs, SqL K H p xs ∧ n = xs.length) ∨ ∃ xs, SqT K H p xs ∧ n = xs.length
  | _ => False
end
end L2

namespace L2
open PySem PySem.Spec PyProof.Rows

/-! ### an instance, its attributes a map -/
structure ObjM (h : Heap) (x dx C : Addr) (mA : Str → Option Value) : Prop where
  obj : h.get? x = some (PySem.W.instObj C dx)
  ns : h.Ns1 dx mA
  ne : dx ≠ x

section
variable {prog : Program} {w : World} {A : Around} {E : Value → Shared → Prop} {s : Shared} {K : PySem.W.Frag} {x dx C f : Addr} {mA : Str → Option Value} {name : Str} {v : Value}

end

/-! ### the attributes as a list of pairs -/
def putF (f : Str) (v : V) : List (Str × V) → List (Str × V)
  | [] => [(f, v)]
  | (g, x) :: r => if g = f then (g, v) :: r else (g, x) :: putF f v r
section
variable {P : Program} {w : World} {H H' : Hp} {h h' : Heap} {a C dx : Addr} {fs fs' : List (Str × V)}
end

/-! ### what of the text a class must have -/
structure Cls (K : PySem.W.Frag) (C : Addr) : Prop where
  pg : PySem.W.plainGet K C Str.empty = true
  hd : PySem.W.hasDictIn K C = true
  po : PySem.W.plainOver K C = true
  sa : PySem.W.findIn K (.ref C) "__setattr__" = some (some (.builtin "object.__setattr__"))
theorem Cls.get {K : PySem.W.Frag} {C : Addr} (c : Cls K C) (f : Str) : PySem.W.plainGet K C f = true := c.pg
/-- no class of it has the name -/
def NoAttr (K : PySem.W.Frag) (C : Addr) (f : Str) : Prop := PySem.W.findIn K (.ref C) f = some none
/-- a constant of the class -/
structure Con (K : PySem.W.Frag) (C : Addr) (f : Str) (v : V) (u : Value) : Prop where
  at_ : PySem.W.findIn K (.ref C) f = some (some u)
  rel : RelV v u
  get : PySem.W.specialIn K u "__get__" = some none
  cp : PySem.W.copiedNames.contains f = false
/-- a method: a plain def of the class or of one above it -/
structure Meth (K : PySem.W.Frag) (C : Addr) (m : Str) (f : Addr) : Prop where
  at_ : PySem.W.findIn K (.ref C) m = some (some (.ref f))
  fn : PySem.W.isFn K (.ref f) = true
  kp : PySem.W.keepIn K (.ref f) = true

section
variable {X : Cx} {pins : List (Addr × Obj)} {σ : St} {H : Hp} {s : Shared} {a C dx : Addr} {fs : List (Str × V)} {f : Str} {v : V} {A : Around} {E : Value → Shared → Prop}

/-- a new instance, tracked, without attributes -/
theorem Inv.made (I : Inv X pins σ H s) : Inv X pins σ (upd (upd H s.heap.objs.size (.own (s.heap.objs.size + 1))) (s.heap.objs.size + 1) (.ins C s.heap.objs.size []))
    { s with heap := (s.heap.push PySem.W.emptyDict).push (PySem.W.instObj C s.heap.objs.size) } := by
  have e1 : (s.heap.push PySem.W.emptyDict).get? s.heap.objs.size = some PySem.W.emptyDict := Heap.get?_push_size s.heap rfl
  have e2 : ((s.heap.push PySem.W.emptyDict).push (PySem.W.instObj C s.heap.objs.size)).get? (s.heap.objs.size + 1) = some (PySem.W.instObj C s.heap.objs.size) := by
    have := Heap.get?_push_size (s.heap.push PySem.W.emptyDict) (o := PySem.W.instObj C s.heap.objs.size) rfl
    rwa [Heap.size_push] at this
  have e3 : (s.heap.push PySem.W.emptyDict).Ns s.heap.objs.size (fun _ => none) := ⟨PySem.W.emptyDict, #[], _, e1, rfl, (fun e he => absurd he (by simp)), fun _ => rfl⟩
  have I1 := I.laid (a := s.heap.objs.size) (o := .own (s.heap.objs.size + 1)) (h' := s.heap.push PySem.W.emptyDict) (t' := s.toks) (fun b u q => Heap.get?_push_of_some _ q) (Nat.le_refl _) ⟨_, e1⟩
  refine I1.laid (a := s.heap.objs.size + 1) (o := .ins C s.heap.objs.size []) (t' := s.toks) (fun b u q => Heap.get?_push_of_some _ q) (Nat.le_of_eq (Heap.size_push _ _)) ?_
  have ne : s.heap.objs.size ≠ s.heap.objs.size + 1 := Nat.ne_of_lt (Nat.lt_succ_self _)
  refine ⟨by rw [upd_ne ne, upd_same], Nat.zero_le _, ne, e2, fun _ => none, (Heap.Ns1.of_empty e3).at fun o q => Heap.get?_push_of_some _ q, fun _ => True.intro, fun y hy => absurd rfl hy⟩

end

/-! ### readings and rules -/
/-- e.f, an attribute of the instance -/
def tFld (K : PySem.W.Frag) (ta : TE) (f : Str) : TE := fun σ H Q => ta σ H fun x H1 => ∃ a C dx fs v, x = .ref a ∧ H1 a = some (.ins C dx fs) ∧ Cls K C ∧ NoAttr K C f ∧ fs.lookup f = some v ∧ Q v H1
/-- e.f, a constant of the class -/
def tCon (K : PySem.W.Frag) (ta : TE) (f : Str) : TE := fun σ H Q => ta σ H fun x H1 => ∃ a C dx fs v u, x = .ref a ∧ H1 a = some (.ins C dx fs) ∧ Cls K C ∧ Con K C f v u ∧ fs.lookup f = none ∧ Q v H1
/-- e.f = value -/
def sFld (K : PySem.W.Frag) (ta tv : TE) (f : Str) : TS := fun D σ H => tv σ H fun y H1 => ta σ H1 fun x H2 => ∃ a C dx fs, x = .ref a ∧ H2 a = some (.ins C dx fs) ∧ Cls K C ∧ NoAttr K C f ∧ fs.length < 1000 ∧
  D.nx σ (upd H2 a (.ins C dx (putF f y fs)))
/-- an augmented operator on two values -/
def InOp (X : Cx) (op : Operator) (rd : V → V → Hp → VK → Prop) : Prop :=
  ∀ (pins : List (Addr × Obj)) (s : Shared) (σ : St) (H : Hp) (x y : V) (u v : Value) (Q : VK), Inv X pins σ H s → RelV x u → RelV y v → rd x y H Q → wpAny (model X.prog X.w) X.A (inplaceOp op u v) (EP X pins σ Q) X.xe s
/-- e.f op= value -/
def sFldAug (K : PySem.W.Frag) (ta tv : TE) (rd : V → V → Hp → VK → Prop) (f : Str) : TS := fun D σ H => ta σ H fun x H1 => ∃ a C dx fs v, x = .ref a ∧ H1 a = some (.ins C dx fs) ∧ Cls K C ∧ NoAttr K C f ∧ fs.lookup f = some v ∧
  tv σ H1 fun y H2 => rd v y H2 fun z H3 => ∃ dx' fs', H3 a = some (.ins C dx' fs') ∧ fs'.length < 1000 ∧ D.nx σ (upd H3 a (.ins C dx' (putF f z fs')))

section
variable {X : Cx} {o e value : Expr} {f : Str} {pos pos' tpos : Pos} {ta tv : TE}
def rAdd : V → V → Hp → VK → Prop := fun x y H Q => ∃ i j, x = .int i ∧ y = .int j ∧ Q (.int (i + j)) H
def rSub : V → V → Hp → VK → Prop := fun x y H Q => ∃ i j, x = .int i ∧ y = .int j ∧ Q (.int (i - j)) H
end

/-! ### isinstance -/
section
variable {X : Cx} {pins : List (Addr × Obj)} {σ : St} {H : Hp} {s : Shared} {A : Around} {E : Value → Shared → Prop} {Q : Value → Shared → Prop} {c : Value} {b : Bool}
/-- the type of a value, as the fragment's deciders take it; for an instance its class -/
inductive TyOf (K : PySem.W.Frag) (H : Hp) : V → Value → Prop where
  | non : TyOf K H .non (.type "NoneType")
  | bl (x : Bool) : TyOf K H (.bl x) (.type "bool")
  | int (i : Int) : TyOf K H (.int i) (.type "int")
  | str (x : Str) : TyOf K H (.str x) (.type "str")
  | flt (x : UInt64) : TyOf K H (.flt x) (.type "float")
  | lst {a : Addr} {xs : List V} (e : H a = some (.lst xs)) : TyOf K H (.ref a) (.type "list")
  | frz {a : Addr} {o : Obj} {xs : List V} (e : H a = some (.frz o (.lst xs))) : TyOf K H (.ref a) (.type "list")
  | tup {a : Addr} {xs : List V} (e : H a = some (.tup xs)) : TyOf K H (.ref a) (.type "tuple")
  | dK {a : Addr} {kvs : List (Key × V)} (e : H a = some (.dK kvs)) : TyOf K H (.ref a) (.type "dict")
  | dT {a : Addr} {kvs : List (List Key × V)} (e : H a = some (.dT kvs)) : TyOf K H (.ref a) (.type "dict")
  | ins {a C dx : Addr} {fs : List (Str × V)} (e : H a = some (.ins C dx fs)) (cl : Cls K C) (ha : PySem.W.findIn K (.ref C) "__class__" = some (some (.builtin "object.__class__")))
      (hn : PySem.W.specialIn K (.builtin "object.__class__") "__get__" = some (some (.builtin "getset_descriptor.__get__"))) (htk : PySem.W.takesIn K (.builtin "object.__class__") = some true)
      (hm : PySem.W.mroIn K C (.type "object") = some true) : TyOf K H (.ref a) (.ref C)
end
end L2

namespace L2
open PySem PySem.Spec PyProof.Rows

/-! ### room -/
structure Room (k : Nat) (A : Around) : Prop where
  hd : A.handled = none
  dp : A.depth + 3 * k + 5 < recursionLimit
  un : A.units + 16 * k + 200 < cLine
theorem Room.mono {j k : Nat} {A : Around} (r : Room k A) (h : j ≤ k) : Room j A := ⟨r.hd, by have := r.dp; omega, by have := r.un; omega⟩
theorem Room.deeper {k : Nat} {A : Around} (r : Room (k + 1) A) (env : Env) : Room k (A.deeper env) :=
  ⟨r.hd, by have := r.dp; show A.depth + 1 + 3 * k + 5 < _; omega, by have := r.un; show A.units + 3 + 16 * k + 200 < _; omega⟩
theorem Room.in1 {k : Nat} {A : Around} (r : Room (k + 1) A) : Room k A.in1 :=
  ⟨r.hd, by have := r.dp; show A.depth + 3 * k + 5 < _; omega, by have := r.un; show A.units + 1 + 16 * k + 200 < _; omega⟩
theorem Room.depth {k : Nat} {A : Around} (r : Room k A) : A.depth < recursionLimit := by have := r.dp; omega
theorem Room.units {k : Nat} {A : Around} (r : Room k A) : A.units + 64 < cLine := by have := r.un; omega
/-! ### argument lists and displays -/
def tNil : TA := fun _ H Q => Q [] H
def tCons (ta : TE) (tr : TA) : TA := fun σ H Q => ta σ H fun x H1 => tr σ H1 fun xs H2 => Q (x :: xs) H2
section
variable {X : Cx} {e : Expr} {es : List Expr} {te : TE} {t : TA} {pos : Pos}
theorem pa_nil : PA X [] tNil := fun _ _ _ _ H Q I h => Calls.spliced_nil ⟨[], H, I, .nil, h⟩
theorem pa_cons (ha : PE X e te) (hr : PA X es t) (hs : starEach (e :: es) X.env = (false, eval e X.env) :: starEach es X.env := by rfl) : PA X (e :: es) (tCons te t) := by
  intro pos pins s σ H Q I h
  rw [hs]
  show wpAny _ _ (spliced ((false, eval e X.env) :: backTo pos (starEach es X.env))) _ _ s
  refine Calls.spliced_cons (thn (ha pins s σ H _ I h) fun u s1 ⟨x, H1, I1, r1, q1⟩ => ?_)
  exact thn (hr pos pins s1 σ H1 _ I1 q1) fun us s2 ⟨xs, H2, I2, r2, q2⟩ => ⟨x :: xs, H2, I2, .cons r1 r2, q2⟩

/-- a tuple, a list of written items -/
def tTup (t : TA) : TE := fun σ H Q => t σ H fun xs H1 => xs.length ≤ sizeLine ∧ ∀ p, H1 p = none → Q (.ref p) (upd H1 p (.tup xs))
def tLst (t : TA) : TE := fun σ H Q => t σ H fun xs H1 => xs.length ≤ sizeLine ∧ ∀ p, H1 p = none → Q (.ref p) (upd H1 p (.lst xs))
theorem pe_tup {x1} (h : PA X es t) : PE X (.Tuple es x1 pos) (tTup t) := by
  intro pins s σ H Q I hq
  refine wpAny_Tuple_spliced (thn (h pos pins s σ H _ I hq) fun us s1 ⟨xs, H1, I1, r, z, q⟩ => ⟨by rw [← r.length]; exact z, ?_⟩)
  have hf : H1 s1.heap.objs.size = none := I1.hok.fresh (Nat.le_refl _)
  refine ⟨.ref s1.heap.objs.size, upd H1 s1.heap.objs.size (.tup xs), I1.laid (t' := s1.toks) (fun b u e => Heap.get?_push_of_some _ e) (Nat.le_refl _) ?_, rfl, q _ hf⟩
  exact ⟨z, us, r, ⟨_, Heap.get?_push_size _ rfl, rfl, _, rfl⟩⟩
theorem pe_lst (h : PA X es t) : PE X (.List es pos) (tLst t) := by
  intro pins s σ H Q I hq
  refine wpAny_List_spliced (thn (h pos pins s σ H _ I hq) fun us s1 ⟨xs, H1, I1, r, z, q⟩ => ⟨by rw [← r.length]; exact z, ?_⟩)
  have hf : H1 s1.heap.objs.size = none := I1.hok.fresh (Nat.le_refl _)
  refine ⟨.ref s1.heap.objs.size, upd H1 s1.heap.objs.size (.lst xs), I1.laid (t' := s1.toks) (fun b u e => Heap.get?_push_of_some _ e) (Nat.le_refl _) ?_, rfl, q _ hf⟩
  exact ⟨z, us, 0, r, Heap.get?_push_size _ rfl⟩
end

/-! ### what a def promises -/
/-- a def's promise: the bound arguments in the parameters' order, the heap, the wanted end, the wanted exception -/
abbrev Sp := List V → Hp → VK → XK → Prop
/-- how an exception lies behind a call (file 08 gives it): the callers' frames, abstract heap and state ahead of the call, the wish, the exception, the state -/
abbrev CXT := List Env → Hp → Shared → XK → Value → Shared → Prop

/-- the state at a call -/
structure Env0 (P : Program) (w : World) (K : PySem.W.Frag) (mg : Str → Option Value) (base : Heap) (A : Around) (outer : List Env) (s : Shared) (H : Hp) : Prop where
  frames : A.frames = some outer
  mod : Mod K mg base
  bs : ∀ b o, base.get? b = some o → s.heap.get? b = some o ∧ H b = none
  bsz : base.objs.size ≤ s.heap.objs.size
  funs : s.heap.FunFrames base outer
  frf : ∀ b ∈ frs outer, H b = none
  hok : HOk P w H s.heap
  bare : AllBare s.gens
/-- a call's end -/
def CE (outer : List Env) (P : Program) (w : World) (H : Hp) (s : Shared) (Q : VK) (u : Value) (s' : Shared) : Prop :=
  ∃ v H', s'.os = s.os ∧ AllBare s'.gens ∧ Un (frs outer) [] H H' s.heap s'.heap ∧ HOk P w H' s'.heap ∧ RelV v u ∧ Q v H'
def CR (CX : CXT) (outer : List Env) (P : Program) (w : World) (H : Hp) (s : Shared) (Q : VK) (E : XK) (r : Result) (s' : Shared) : Prop :=
  match r with
  | .ok (.ret u) => CE outer P w H s Q u s'
  | .ok _ => False
  | .error e => CX outer H s E e s'
structure FnOk (P : Program) (w : World) (K : PySem.W.Frag) (mg : Str → Option Value) (base : Heap) (CX : CXT) (k : Nat) (f : Addr) (fd : FuncData) (ps : List Str) (sp : Sp) : Prop where
  len : ∀ vs H Q E, sp vs H Q E → vs.length = ps.length
  run : ∀ (A : Around) (outer : List Env) (s : Shared) (H : Hp) (args : Args) (us : List Value) (vs : List V) (Q : VK) (E : XK), Room k A → Env0 P w K mg base A outer s H → BindsTo s fd args (ps.zip us) → Vals vs us → sp vs H Q E →
    codeAny (model P w) A (.call (.ref f) args) (CR CX outer P w H s Q E) s
theorem FnOk.mono {P : Program} {w : World} {K : PySem.W.Frag} {mg : Str → Option Value} {base : Heap} {CX : CXT} {j k : Nat} {f : Addr} {fd : FuncData} {ps : List Str} {sp : Sp} (F : FnOk P w K mg base CX j f fd ps sp) (h : j ≤ k) :
    FnOk P w K mg base CX k f fd ps sp := ⟨F.len, fun A outer s H args us vs Q E hr => F.run A outer s H args us vs Q E (hr.mono h)⟩
/-- a weaker promise -/
theorem FnOk.imp {P : Program} {w : World} {K : PySem.W.Frag} {mg : Str → Option Value} {base : Heap} {CX : CXT} {k : Nat} {f : Addr} {fd : FuncData} {ps : List Str} {sp sp' : Sp} (F : FnOk P w K mg base CX k f fd ps sp)
    (h : ∀ vs H Q E, sp' vs H Q E → sp vs H Q E) : FnOk P w K mg base CX k f fd ps sp' :=
  ⟨fun vs H Q E q => F.len vs H Q E (h _ _ _ _ q), fun A outer s H args us vs Q E hr he hb hv hs => F.run A outer s H args us vs Q E hr he hb hv (h _ _ _ _ hs)⟩

theorem Env0.in1 {P : Program} {w : World} {K : PySem.W.Frag} {mg : Str → Option Value} {base : Heap} {A : Around} {outer : List Env} {s : Shared} {H : Hp} (e : Env0 P w K mg base A outer s H) :
    Env0 P w K mg base A.in1 outer s H := ⟨e.frames, e.mod, e.bs, e.bsz, e.funs, e.frf, e.hok, e.bare⟩

section
variable {X : Cx} {pins : List (Addr × Obj)} {σ : St} {H : Hp} {s s' : Shared}
/-- from a body: what a callee wants -/
theorem Inv.env0 (I : Inv X pins σ H s) : Env0 X.prog X.w X.K X.mg X.base X.A X.stack s H :=
  ⟨I.ok.frames, I.ok.mod, I.bs, Nat.le_trans I.ok.bsz I.sz, I.stack, I.stkFree, I.hok, I.bare⟩
/-- behind a call -/
theorem Inv.after {Q : VK} {u : Value} (I : Inv X pins σ H s) (h : CE X.stack X.prog X.w H s Q u s') : EP X pins σ Q u s' := by
  obtain ⟨v, H', os, bare, un, hok, r, q⟩ := h
  obtain ⟨hh, g, d, t, os'⟩ := s'
  obtain rfl : os' = s.os := os
  exact ⟨v, H', I.call (h' := hh) (g' := g) (d' := d) (t' := t) (ch := []) un hok bare (fun b z => absurd z (by simp)), r, q⟩
end

/-! ### calls -/
/-- f(..): the written arguments, then the defaults dvs; E: what is wanted of an exception -/
def tCall (sp : Sp) (dvs : List V) (E : XK) (t : TA) : TE := fun σ H Q => t σ H fun vs H1 => sp (vs ++ dvs) H1 Q E
/-- o.m(..) of an instance of the class at C -/
def tMeth (C : Addr) (m : Str) (sp : Sp) (dvs : List V) (E : XK) (ta : TE) (t : TA) : TE := fun σ H Q => ta σ H fun x H1 => ∃ a dx fs, x = .ref a ∧ H1 a = some (.ins C dx fs) ∧ fs.lookup m = none ∧
  t σ H1 fun vs H2 => sp (x :: (vs ++ dvs)) H2 Q E
/-- C(..): a new instance and its dict, then __init__ -/
def tMake (C : Addr) (sp : Sp) (dvs : List V) (E : XK) (t : TA) : TE := fun σ H Q => t σ H fun vs H1 => ∀ x dx, H1 x = none → H1 dx = none → dx ≠ x →
  sp (.ref x :: (vs ++ dvs)) (upd (upd H1 dx (.own x)) x (.ins C dx [])) (fun v H2 => v = .non ∧ Q (.ref x) H2) E

/-- how the parameters are bound: us the positional arguments, kw the keywords' values by name, ds the defaults that fill up -/
def Binds (K : PySem.W.Frag) (fd : FuncData) (ps : List Str) (ds : List Value) : Prop :=
  ∀ (s : Shared) (us : List Value), K.In s.heap → (us ++ ds).length = ps.length → BindsTo s fd ⟨us, []⟩ (ps.zip (us ++ ds))
/-- every parameter is given -/
theorem Binds.all {K : PySem.W.Frag} {fd : FuncData} {ps : List Str} (h : ∀ us : List Value, us.length = ps.length → bindArgs fd ⟨us, []⟩ = pure (ps.zip us)) : Binds K fd ps [] := fun s us _ hl => by
  rw [List.append_nil] at hl ⊢
  exact .of_eq (h us hl)

/-- an exception of a callee reaches what this body wants of exceptions -/
def Passes (CX : CXT) (X : Cx) (E : XK) : Prop := ∀ (pins : List (Addr × Obj)) (σ : St) (H : Hp) (s : Shared) (e : Value) (s' : Shared), Inv X pins σ H s → CX X.stack H s E e s' → X.xe e s'

section
variable {X : Cx} {CX : CXT} {k : Nat} {f C : Addr} {fd : FuncData} {ps : List Str} {sp : Sp} {dvs : List V} {ds : List Value} {E : XK} {x m : Str} {p pos apos : Pos} {e o : Expr} {es : List Expr} {ta : TE} {t : TA}

/-- the callee runs -/
theorem run_fn {pins : List (Addr × Obj)} {σ : St} {H : Hp} {s : Shared} {Q : VK} {us : List Value} {vs : List V} (F : FnOk X.prog X.w X.K X.mg X.base CX k f fd ps sp) (hr : Room k X.A) (hb : Binds X.K fd ps ds) (hd : Vals dvs ds) (hx : Passes CX X E)
    (I : Inv X pins σ H s) (r : Vals vs us) (h : sp (vs ++ dvs) H Q E) : wpAny (model X.prog X.w) X.A (call (.ref f) us) (EP X pins σ Q) X.xe s := by
  have r2 : Vals (vs ++ dvs) (us ++ ds) := r.append hd
  have hl : (us ++ ds).length = ps.length := by rw [← r2.length]; exact F.len _ _ _ _ h
  refine wpAny_call (codeAny_mono (F.run X.A X.stack s H ⟨us, []⟩ (us ++ ds) (vs ++ dvs) Q E hr I.env0 (hb s us I.kIn hl) r2 h) fun r s' hq => ?_)
  cases r with
  | error e => exact hx pins σ H s e s' I hq
  | ok fl =>
    cases fl with
    | ret u => exact I.after hq
    | next => exact False.elim hq
    | brk => exact False.elim hq
    | cont => exact False.elim hq

theorem pe_call (F : FnOk X.prog X.w X.K X.mg X.base CX k f fd ps sp) (hr : Room k X.A) (hg : Gl X x) (hm : X.mg x = some (.ref f)) (hk : PySem.W.keepIn X.K (.ref f) = true) (hb : Binds X.K fd ps ds) (hd : Vals dvs ds) (hx : Passes CX X E)
    (ha : PA X (e :: es) t) (hdb : (x == ("__debug__" : Str)) = false := by decide) (he : starEach (e :: es) X.env = (false, eval e X.env) :: starEach es X.env := by rfl) (hpl : (backTo pos (starEach es X.env)).any (·.1) = false := by rfl) :
    PE X (.Call (.Name x p) (e :: es) [] pos) (tCall sp dvs E t) := by
  intro pins s σ H Q I h
  refine wpAny_Call_Name_kw (ld_glob I hg hm ?_ hdb)
  refine PySem.W.callWith_K (h₀ := X.base) I.ok.mod.kin hk (thn (ha pos pins s σ H _ I h) fun us s1 ⟨vs, H1, I1, r, q⟩ => ⟨I1.kIn, ?_⟩) he hpl
  exact run_fn F hr hb hd hx I1 r q
/-- what a class must have to be made -/
structure Mk (K : PySem.W.Frag) (C f : Addr) : Prop where
  makes : PySem.W.makesIn K C = true
  init : PySem.W.findIn K (.ref C) "__init__" = some (some (.ref f))
  fn : PySem.W.isFn K (.ref f) = true
  kp : PySem.W.keepIn K (.ref C) = true

end

/-! ### keywords -/
/-- the values of the keywords, from the left -/
def PK (X : Cx) (kws : List Keyword) (t : TA) : Prop :=
  ∀ (pos : Pos) (pins : List (Addr × Obj)) (s : Shared) (σ : St) (H : Hp) (Q : List V → Hp → Prop), Inv X pins σ H s → t σ H Q → wpAny (model X.prog X.w) X.A (evalAll ((backToKw pos (keywordEach kws X.env)).map (·.2))) (AP X pins σ Q) X.xe s
section
variable {X : Cx} {CX : CXT} {k : Nat} {f C : Addr} {fd : FuncData} {ps ks : List Str} {sp : Sp} {E : XK} {x m : Str} {p pos apos kpos : Pos} {e o : Expr} {es : List Expr} {kws : List Keyword} {te ta : TE} {t tk : TA} {nm : Option Str}
/-- how a call with keywords binds: g puts the positional values us and the keywords' values ws (names ks) in the parameters' order, defaults among them -/
structure KBinds (K : PySem.W.Frag) (fd : FuncData) (ps ks : List Str) (g : List Value → List Value → List Value) (gV : List V → List V → List V) : Prop where
  to : ∀ (s : Shared) (us ws : List Value), K.In s.heap → (g us ws).length = ps.length → BindsTo s fd ⟨us, ks.zip ws⟩ (ps.zip (g us ws))
  rel : ∀ {vs : List V} {us : List Value} {zs : List V} {ws : List Value}, Vals vs us → Vals zs ws → Vals (gV vs zs) (g us ws)
def tCallK (sp : Sp) (gV : List V → List V → List V) (E : XK) (t tk : TA) : TE := fun σ H Q => t σ H fun vs H1 => tk σ H1 fun zs H2 => sp (gV vs zs) H2 Q E
variable {g : List Value → List Value → List Value} {gV : List V → List V → List V}
end

/-! ### a def's body keeps its promise -/
/-- names: the parameters first -/
structure FnScope (N P : List Str) (sc : Scope) : Prop where
  kind : sc.kind = .function
  co : sc.isCoroutine = false
  gen : sc.isGenerator = false
  nd : N.Nodup
  pre : N.take P.length = P
  par : ∀ x ∈ P, sc.names.lookup x = some .local ∨ sc.names.lookup x = some .cell
  nofree : ∀ y ∈ sc.names, y.2 ≠ .free

theorem bindL_out {kindOf : Str → Option NameKind} {x : Str} : ∀ {binds : List (Str × Value)} {m : Str → Option Value}, (∀ v, (x, v) ∉ binds) → bindL kindOf binds m x = m x
  | [], _, _ => rfl
  | (n, v) :: r, m, h => by
    unfold bindL
    rw [bindL_out fun w hw => h w (List.mem_cons_of_mem _ hw)]
    split
    · have : x ≠ n := by rintro rfl; exact h v List.mem_cons_self
      simp [this]
    · rfl
theorem bindC_out {kindOf : Str → Option NameKind} {x : Str} : ∀ {binds : List (Str × Value)} {m : Str → Option Value}, (∀ v, (x, v) ∉ binds) → bindC kindOf binds m x = m x
  | [], _, _ => rfl
  | (n, v) :: r, m, h => by
    unfold bindC
    rw [bindC_out fun w hw => h w (List.mem_cons_of_mem _ hw)]
    split
    · rfl
    · have : x ≠ n := by rintro rfl; exact h v List.mem_cons_self
      simp [this]
theorem bindL_get {kindOf : Str → Option NameKind} {x : Str} {v : Value} : ∀ {P : List Str} {vs : List Value} {i : Nat} {m : Str → Option Value}, P.Nodup → P[i]? = some x → vs[i]? = some v → kindOf x = some .local →
    bindL kindOf (P.zip vs) m x = some v
  | [], _, _, _, _, h, _, _ => by simp at h
  | _ :: _, [], _, _, _, _, h, _ => by simp at h
  | p :: P, w :: vs, 0, m, nd, h1, h2, hk => by
    simp at h1 h2; subst h1; subst h2
    show bindL kindOf ((p, w) :: P.zip vs) m p = _
    unfold bindL
    rw [bindL_out fun v hv => (List.nodup_cons.mp nd).1 (List.of_mem_zip hv).1, if_pos hk]
    simp
  | p :: P, w :: vs, i + 1, m, nd, h1, h2, hk => by
    show bindL kindOf ((p, w) :: P.zip vs) m x = _
    unfold bindL
    exact bindL_get (i := i) (List.nodup_cons.mp nd).2 (by simpa using h1) (by simpa using h2) hk
theorem bindC_get {kindOf : Str → Option NameKind} {x : Str} {v : Value} : ∀ {P : List Str} {vs : List Value} {i : Nat} {m : Str → Option Value}, P.Nodup → P[i]? = some x → vs[i]? = some v → kindOf x ≠ some .local →
    bindC kindOf (P.zip vs) m x = some v
  | [], _, _, _, _, h, _, _ => by simp at h
  | _ :: _, [], _, _, _, _, h, _ => by simp at h
  | p :: P, w :: vs, 0, m, nd, h1, h2, hk => by
    simp at h1 h2; subst h1; subst h2
    show bindC kindOf ((p, w) :: P.zip vs) m p = _
    unfold bindC
    rw [bindC_out fun v hv => (List.nodup_cons.mp nd).1 (List.of_mem_zip hv).1, if_neg hk]
    simp
  | p :: P, w :: vs, i + 1, m, nd, h1, h2, hk => by
    show bindC kindOf ((p, w) :: P.zip vs) m x = _
    unfold bindC
    exact bindC_get (i := i) (List.nodup_cons.mp nd).2 (by simpa using h1) (by simpa using h2) hk

/-- the names' values at the entry -/
def start (N : List Str) (vs : List V) : St := vs.map some ++ List.replicate (N.length - vs.length) none

/-- the context of a def's body, at its entry; an exception leaves the frame, then lies as CX says -/
def cxOf (CX : CXT) (P : Program) (w : World) (K : PySem.W.Frag) (mg : Str → Option Value) (base : Heap) (N : List Str) (qual : Str) (scope : Scope) (f : Addr) (cd : Value) (A : Around) (outer : List Env) (s : Shared) (H : Hp) (E : XK) : Cx where
  prog := P
  w := w
  K := K
  mg := mg
  base := base
  A := A.deeper (envOfC qual scope s.heap.objs.size f cd)
  N := N
  s₀ := s
  H₀ := H
  env := envOfC qual scope s.heap.objs.size f cd
  outer := outer
  stack := envOfC qual scope s.heap.objs.size f cd :: outer
  ex := []
  calm := true
  fn := fun _ => true
  pn := []
  xe := fun e s' => wpAny (model P w) (A.deeper (envOfC qual scope s.heap.objs.size f cd)) (leaving (envOfC qual scope s.heap.objs.size f cd) e) (fun _ s'' => CX outer H s E e s'') (fun e' s'' => CX outer H s E e' s'') s'

theorem cell_has {sc : Scope} {n : Nat} {x : Str} (h : sc.names.lookup x = some .cell) : ∃ c, (cellsFrom n sc.names []).lookup x = some c := by
  have q := PySem.W.cellsFrom_some sc.names n [] (.inl h)
  exact Option.isSome_iff_exists.mp q

theorem inv_start {CX : CXT} {P : Program} {w : World} {K : PySem.W.Frag} {mg : Str → Option Value} {base : Heap} {N ps : List Str} {qual : Str} {scope : Scope} {f : Addr} {cd : Value} {A : Around} {outer : List Env} {s s1 : Shared} {H : Hp} {E : XK} {us : List Value} {vs : List V}
    (S : FnScope N ps scope) (hd : A.handled = none) (e0 : Env0 P w K mg base A outer s H) (hl : vs.length = ps.length) (r : Vals vs us)
    (x : InCallC s s.heap.objs.size (bindL (envOfC qual scope s.heap.objs.size f cd).kindOf (ps.zip us) fun _ => none) (cellsFrom (s.heap.objs.size + 1) scope.names []) (bindC (envOfC qual scope s.heap.objs.size f cd).kindOf (ps.zip us) fun _ => none) s1) :
    Inv (cxOf CX P w K mg base N qual scope f cd A outer s H E) [] (start N vs) H s1 := by
  have hpl : ps.length ≤ N.length := by have := congrArg List.length S.pre; rw [List.length_take] at this; omega
  obtain ⟨h1, tk, rfl, hk⟩ := x.done
  have noA : ∀ b : Addr, b ∉ (cxOf CX P w K mg base N qual scope f cd A outer s H E).ex := fun b z => absurd (show b ∈ ([] : List Addr) from z) (by simp)
  refine ⟨⟨e0.mod, S.kind, rfl, rfl, Nat.le_refl _, fun y z c h1 h2 => ?_, fun y hy => ?_, fun y c _ h => ?_, fun _ => hd, Around.frames_deeper e0.frames, .inr ⟨rfl, rfl⟩, fun b z => absurd z (noA b), e0.bs, e0.bsz, fun b _ _ => noA b, fun b z => absurd z (noA b), e0.funs, e0.frf⟩,
    rfl, e0.bare, Un.kept hk, ⟨_, x.toInCall.ns, fun i y v h1 h2 h3 => ?_⟩, fun y c h => ⟨_, x.cell y c h⟩, e0.hok.fresh (Nat.le_refl _), fun y c h => ?_, fun p hp => absurd (show p ∈ ([] : List (Addr × Obj)) from hp) (by simp), e0.hok.kept hk, ?_⟩
  · exact name_of_addr x.apart (PySem.mem_of_lookup h1) (PySem.mem_of_lookup h2)
  · have hy : scope.names.lookup y = some .cell ∨ scope.names.lookup y = some .free := hy
    rcases hy with hy | hy
    · exact cell_has hy
    · exact absurd rfl (S.nofree _ (PySem.mem_of_lookup hy))
  · exact Nat.le_of_lt (x.above y c (PySem.mem_of_lookup h))
  · have hi : i < vs.length := by
      unfold start at h2
      by_cases hi : i < vs.length
      · exact hi
      · rw [List.getElem?_append_right (by simpa using hi)] at h2
        rw [List.getElem?_replicate] at h2
        split at h2 <;> cases h2
    have ha : vs[i]? = some v := by
      unfold start at h2
      rw [List.getElem?_append_left (by simpa using hi), List.getElem?_map] at h2
      cases e : vs[i]? with
      | none => rw [e] at h2; cases h2
      | some a => rw [e] at h2; cases h2; rfl
    obtain ⟨u, hu, rv⟩ := r.get ha
    have hp : ps[i]? = some y := by
      rw [← S.pre, List.getElem?_take_of_lt (by omega)]; exact h1
    have ndP : ps.Nodup := by rw [← S.pre]; exact S.nd.sublist (List.take_sublist _ _)
    refine ⟨u, rv, ?_⟩
    rcases S.par y (List.mem_of_getElem? hp) with k | k
    · exact .inl ⟨k, bindL_get ndP hp hu k⟩
    · obtain ⟨c, e⟩ := cell_has (n := s.heap.objs.size + 1) k
      refine .inr ⟨.inl k, c, e, ?_⟩
      have q := x.cell y c e
      rw [bindC_get ndP hp hu (by show scope.names.lookup y ≠ _; rw [k]; decide)] at q
      exact q
  · exact e0.hok.fresh (Nat.le_of_lt (x.above y c (PySem.mem_of_lookup h)))
  · unfold start
    show _ = N.length
    rw [List.length_append, List.length_map, List.length_replicate]
    omega

/-- THE RULE: a def (or a method) of the text, by its body. The body's reading t is chosen for each entry; it is run at the parameters' values -/
theorem fn_of {CX : CXT} {P : Program} {w : World} {K : PySem.W.Frag} {mg : Str → Option Value} {base : Heap} {k : Nat} {f : Addr} {name qual : Str} {params : Arguments} {body : List Stmt} {scope : Scope} {dV kV doc pm cdv ct oc : Value} {an od : Option Addr}
    {osl : Array (Option Value)} {N ps : List Str} {sp : Sp} (lk : K.lookup f = some ⟨oc, od, .func (PySem.W.fnOf name qual params body scope dV kV doc pm an cdv ct), osl⟩) (hcd : PySem.W.codeIn K cdv qual = true) (S : FnScope N ps scope)
    (len : ∀ vs H Q E, sp vs H Q E → vs.length = ps.length)
    (hbody : ∀ (A : Around) (outer : List Env) (s : Shared) (H : Hp) (vs : List V) (Q : VK) (E : XK), Room k (A.deeper (envOfC qual scope s.heap.objs.size f cdv)) → sp vs H Q E →
      ∃ t, PSs (cxOf CX P w K mg base N qual scope f cdv A outer s H E) body t ∧ t { nx := fun _ H' => Q .non H', rt := Q } (start N vs) H) :
    FnOk P w K mg base CX (k + 1) f (PySem.W.fnOf name qual params body scope dV kV doc pm an cdv ct) ps sp := by
  refine ⟨len, fun A outer s H args us vs Q E hr e0 hb r hsp => ?_⟩
  have hl := len _ _ _ _ hsp
  have KX : K.In s.heap := e0.mod.kin.keeps fun b o e => (e0.bs b o e).1
  have lim : s.heap.NoLimit := e0.mod.nolimit.keeps fun b o e => (e0.bs b o e).1
  have hkind : ∀ y ∈ ps.zip us, scope.names.lookup y.1 = some .local ∨ (scope.names.lookup y.1 = some .cell ∧ ((cellsFrom (s.heap.objs.size + 1) scope.names []).lookup y.1).isSome = true) := fun ⟨n, v⟩ hy => by
    rcases S.par n (List.of_mem_zip hy).1 with q | q
    · exact .inl q
    · exact .inr ⟨q, PySem.W.cellsFrom_some _ _ _ (.inl q)⟩
  refine codeAny_call_function hr.depth (KX _ _ lk) rfl S.co S.gen rfl (PySem.W.codeRec_of KX hcd) (hb _ _ _ _ ?_)
  refine wpAny_newFunctionEnv_cells S.kind hkind fun env he s1 x => ?_
  subst he
  refine ⟨lim.keeps x.toInCall.keep, codeAny_func ?_⟩
  obtain ⟨t, ht, hq⟩ := hbody A outer s H vs Q E (hr.deeper _) hsp
  have I : Inv (cxOf CX P w K mg base N qual scope f cdv A outer s H E) [] (start N vs) H s1 := inv_start S hr.hd e0 hl r x
  refine wpAny_mono (ht [] s1 (start N vs) H _ I hq) (fun fl s' hs => ?_) fun e s' hs => hs
  have fin : ∀ {σ' : St} {H' : Hp} {v : V} {u : Value}, Inv (cxOf CX P w K mg base N qual scope f cdv A outer s H E) [] σ' H' s' → RelV v u → Q v H' → CE outer P w H s Q u s' :=
    fun {σ' H' v u} J rv q => ⟨v, H', J.os, J.bare, J.base, J.hok, rv, q⟩
  cases fl with
  | ret u =>
    obtain ⟨v, σ', H', J, rv, q⟩ := hs
    exact fin J rv q
  | next =>
    obtain ⟨σ', H', J, q⟩ := hs
    exact fin (v := V.non) (u := Value.none) J rfl q
  | brk =>
    obtain ⟨_, _, _, q⟩ := hs
    exact False.elim q
  | cont =>
    obtain ⟨_, _, _, q⟩ := hs
    exact False.elim q
end L2

namespace L2
open PySem PySem.Spec PyProof.Rows
section
variable {X : Cx} {x : Str} {p pos : Pos} {e : Expr} {es : List Expr} {t : TA} {id T : String} {r : List V → Hp → VK → Prop}

def tCB (r : List V → Hp → VK → Prop) (t : TA) : TE := fun σ H Q => t σ H fun vs H1 => r vs H1 Q
/-- f(e, ..), f a built-in function -/
theorem pe_callB (hc : CallR X (.builtin id) r) (hg : Gl X x) (hm : X.mg x = none) (hv : bootBuiltins x = some (.builtin id)) (ha : PA X (e :: es) t) (hn : x ≠ "__name__" := by decide) (hdb : (x == ("__debug__" : Str)) = false := by decide)
    (he : starEach (e :: es) X.env = (false, eval e X.env) :: starEach es X.env := by rfl) (hpl : (backTo pos (starEach es X.env)).any (·.1) = false := by rfl) : PE X (.Call (.Name x p) (e :: es) [] pos) (tCB r t) := by
  intro pins s σ H Q I h
  refine wpAny_Call_Name_kw (ld_blt I hg hm hv ?_ hn hdb)
  exact PyProof.Rows.callWith_builtin1 (thn (ha pos pins s σ H _ I h) fun us s1 ⟨vs, H1, I1, r1, q1⟩ => hc pins s1 σ H1 vs us Q I1 r1 q1) he hpl
/-- T(e, ..), T a built-in type -/
theorem pe_callTy (hc : CallR X (.type T) r) (hg : Gl X x) (hm : X.mg x = none) (hv : bootBuiltins x = some (.type T)) (ha : PA X (e :: es) t) (hn : x ≠ "__name__" := by decide) (hdb : (x == ("__debug__" : Str)) = false := by decide)
    (he : starEach (e :: es) X.env = (false, eval e X.env) :: starEach es X.env := by rfl) (hpl : (backTo pos (starEach es X.env)).any (·.1) = false := by rfl) : PE X (.Call (.Name x p) (e :: es) [] pos) (tCB r t) := by
  intro pins s σ H Q I h
  refine wpAny_Call_Name_kw (ld_blt I hg hm hv ?_ hn hdb)
  exact PyProof.Rows.callWith_type1 (thn (ha pos pins s σ H _ I h) fun us s1 ⟨vs, H1, I1, r1, q1⟩ => hc pins s1 σ H1 vs us Q I1 r1 q1) he hpl
end
end L2

namespace HT
open PySem PyProof.Rows

/-- t < u of tuples of ints -/
def lexLt : List Int → List Int → Bool
  | [], [] => false
  | [], _ :: _ => true
  | _ :: _, [] => false
  | x :: xs, y :: ys => if x = y then lexLt xs ys else decide (x < y)
section
open PySem.SeqAt
open PySem.AutoSeq1 (wpAny_loadPart')
open PySem.MeetsSeq PySem.MeetsSeq2 PySem.MeetsSeq3

end

section
variable {prog : Program} {w : World} {A : Around} {E : Value → Shared → Prop} {s : Shared}

/-- t + u, t not empty -/
theorem cat_tup {t b : Addr} {vs ws : List Value} {Q : Value → Shared → Prop} (ht : IsTup s.heap t vs.toArray) (hb : IsTup s.heap b ws.toArray) (hv : vs ≠ [])
    (h1 : ws = [] → Q (.ref t) s) (h2 : ws ≠ [] → Q (.ref s.heap.objs.size) { s with heap := s.heap.push { cls := .type "tuple", data := .seq (vs ++ ws).toArray } })
    (hsz : vs.length + ws.length ≤ sizeLine) : wpAny (model prog w) A (binaryOp .Add (.ref t) (.ref b)) Q E s := by
  obtain ⟨⟨cls, dd, data, sl⟩, ho, hc, n, hd⟩ := id ht
  obtain ⟨⟨cls2, dd2, data2, sl2⟩, ho2, hc2, n2, hd2⟩ := id hb
  simp only at hc hd hc2 hd2
  subst hc hd hc2 hd2
  have e : vs.toArray ++ ws.toArray = (vs ++ ws).toArray := by simp
  by_cases hw : ws = []
  · exact concat_meets ⟨_, ho, rfl⟩ ⟨_, ho2, rfl⟩ noFill_tuple_add seq_tuple_add PySem.F.slot_tuple_add PySem.F.entry_tuple_add (PySem.F.args_tuple_add_2 _ _)
      (tuple_addW1 t b vs.toArray ws.toArray n n2 dd dd2 sl sl2 (by simpa using hv) (by simp [hw])) ⟨ho, ho2, h1 hw⟩
  · refine concat_meets ⟨_, ho, rfl⟩ ⟨_, ho2, rfl⟩ noFill_tuple_add seq_tuple_add PySem.F.slot_tuple_add PySem.F.entry_tuple_add (PySem.F.args_tuple_add_2 _ _)
      (tuple_addW2 t b vs.toArray ws.toArray n n2 dd dd2 sl sl2 (by simpa using hv) (by simpa using hw) (by rw [List.size_toArray, List.size_toArray]; exact hsz)) ⟨ho, ho2, ?_⟩
    rw [e]
    exact h2 hw

/-! ### t[a:b], not the whole -/
/-- a slice's bound as a place among n (d where it is left out) -/
def sIx (n d : Nat) : Option Int → Nat
  | none => d
  | some v => if v < 0 then (v + (n : Int)).toNat else min v.toNat n
theorem sIx_le (n d : Nat) (hd : d ≤ n) (o : Option Int) : sIx n d o ≤ n := by
  cases o with
  | none => exact hd
  | some v =>
    show (if v < 0 then (v + (n : Int)).toNat else min v.toNat n) ≤ n
    by_cases hv : v < 0
    · rw [if_pos hv]; omega
    · rw [if_neg hv]; exact Nat.min_le_right _ _
theorem clip_eq (v : Int) (n d : Nat) : (if v < 0 then max (v + (n : Int)) 0 else min v (n : Int)) = ((sIx n d (some v) : Nat) : Int) := by
  show (if v < 0 then max (v + (n : Int)) 0 else min v (n : Int)) = (((if v < 0 then (v + (n : Int)).toNat else min v.toNat n) : Nat) : Int)
  by_cases hv : v < 0
  · simp only [if_pos hv]; omega
  · simp only [if_neg hv]; omega
theorem adjust_gen (lo hi : Option Int) (n : Nat) : Builtin.Slice.sliceAdjust lo hi 1 (n : Int) = (((sIx n 0 lo : Nat) : Int), ((sIx n n hi : Nat) : Int)) := by
  have h1 : ¬ ((1 : Int) < 0) := by omega
  unfold Builtin.Slice.sliceAdjust
  simp only [h1, if_false]
  refine Prod.ext ?_ ?_
  · cases lo with
    | none => rfl
    | some v => exact clip_eq v n 0
  · cases hi with
    | none => rfl
    | some v => exact clip_eq v n n
theorem places_gen (i j : Nat) : Builtin.Slice.slicePlaces (i : Int) (j : Int) 1 = j - i := by
  unfold Builtin.Slice.slicePlaces
  have h1 : (1 : Int) > 0 := by omega
  simp only [h1, if_true, Int.ediv_one]
  split <;> omega
theorem slicePart_ {v : Value} {o : Option Int} {Q : Option Int → Shared → Prop} (p : IsPart v o) (h : Q o s) : wpAny (model prog w) A (Builtin.Slice.slicePartIndex v) Q E s := by
  cases p with
  | none => exact slicePart_none h
  | int i t => exact slicePart_int h
theorem sliceApplied_gen {sl : Addr} {vl vu : Value} {lo hi : Option Int} {n : Nat} {Q : Int × Int × Nat → Shared → Prop} (hs : s.heap.IsSliceOf sl vl vu .none) (pl : IsPart vl lo) (pu : IsPart vu hi)
    (h : Q (((sIx n 0 lo : Nat) : Int), 1, sIx n n hi - sIx n 0 lo) s) : wpAny (model prog w) A (Builtin.Slice.sliceApplied (.ref sl) (pure (n : Int))) Q E s := by
  obtain ⟨os, hos, hcs, hds⟩ := id hs
  unfold Builtin.Slice.sliceApplied Builtin.Slice.sliceFields
  refine wpAny_bind (wpAny_bind (wpAny_field hos hds (x := vl) rfl (wpAny_bind (wpAny_field hos hds (x := vu) rfl (wpAny_bind (wpAny_field hos hds (x := .none) rfl (wpAny_pure ?_)))))))
  refine wpAny_bind (slicePart_none ?_)
  show wpAny _ _ (if ((1 : Int) == 0) = true then _ else _) _ _ s
  rw [if_neg (by decide)]
  refine wpAny_bind (slicePart_ pl (wpAny_bind (slicePart_ pu (wpAny_bind (wpAny_pure ?_)))))
  show wpAny _ _ (match Builtin.Slice.sliceAdjust lo hi 1 (n : Int) with | (lo, hi) => pure (lo, (1 : Int), Builtin.Slice.slicePlaces lo hi 1)) _ _ s
  rw [adjust_gen lo hi n]
  show wpAny _ _ (pure (((sIx n 0 lo : Nat) : Int), (1 : Int), Builtin.Slice.slicePlaces ((sIx n 0 lo : Nat) : Int) ((sIx n n hi : Nat) : Int) 1)) _ _ s
  rw [places_gen]
  exact wpAny_pure h
theorem pick_gen (xs : Array Value) (i k : Nat) : ((List.range k).filterMap fun (m : Nat) => xs[((i : Int) + (m : Int) * 1).toNat]?).toArray = ((xs.toList.drop i).take k).toArray := by
  have e : (fun (m : Nat) => xs[((i : Int) + (m : Int) * 1).toNat]?) = fun m => xs[i + m]? := by
    funext m
    have : ((i : Int) + (m : Int) * 1).toNat = i + m := by omega
    rw [this]
  rw [e]
  have := pick_run xs i k
  rw [List.filterMap_map] at this
  have e2 : ((fun x => xs[x]?) ∘ fun x => i + x) = fun m => xs[i + m]? := rfl
  rw [e2] at this
  rw [this]

theorem getItem_tuple_cut {t sl : Addr} {items : Array Value} {vl vu : Value} {lo hi : Option Int} {Q : Value → Shared → Prop} (ht : IsTup s.heap t items) (hs : s.heap.IsSliceOf sl vl vu .none) (pl : IsPart vl lo) (pu : IsPart vu hi)
    (hw : ¬ (sIx items.size 0 lo = 0 ∧ sIx items.size items.size hi = items.size))
    (h : Q (.ref s.heap.objs.size) { s with heap := s.heap.push { cls := .type "tuple", data := .seq ((items.toList.drop (sIx items.size 0 lo)).take (sIx items.size items.size hi - sIx items.size 0 lo)).toArray } })
    (hsz : items.size ≤ sizeLine) : wpAny (model prog w) A (getItem (.ref t) (.ref sl)) Q E s := by
  have htake : sizeOk (.seq ((items.toList.drop (sIx items.size 0 lo)).take (sIx items.size items.size hi - sIx items.size 0 lo)).toArray) := by
    show ((items.toList.drop (sIx items.size 0 lo)).take (sIx items.size items.size hi - sIx items.size 0 lo)).toArray.size ≤ sizeLine
    rw [List.size_toArray, List.length_take, List.length_drop, Array.length_toList]
    omega
  have hj : sIx items.size items.size hi ≤ items.size := sIx_le _ _ (Nat.le_refl _) hi
  obtain ⟨os, hos, hcs, hds⟩ := id hs
  have hTs : s.TypeIs (.ref sl) "slice" := ⟨os, hos, hcs⟩
  unfold getItem
  try with_reducible refine wpAny_holding ?_
  first | refine wpAny_bind (wpAny_pure ?_) | skip
  refine wpAny_bind (wpAny_sequenceKey ht.typeIs (by decide) ?_)
  refine wpAny_bind (wpAny_callSpecial?_slot (name := Str.ofString "__getitem__") ht.typeIs PyProof.Rows.slot_tuple_getitem
    (wpAny_call_entry PyProof.Rows.slot_tuple_getitem ht.typeIs entry_tuple_getitem ?_ (args_tuple_getitem _ _)))
  show wpAny _ _ (Builtin.Tuple.tupleItemsOf (.ref t) >>= _) _ _ s
  refine wpAny_bind (tupleItemsOf_ ht ?_)
  refine wpAny_bind (wpAny_typeOf hTs ?_)
  rw [if_pos (by decide)]
  refine wpAny_bind (sliceApplied_gen hs pl pu ?_)
  have hno : ¬ ((((sIx items.size 0 lo : Nat) : Int) == 0 && (1 : Int) == 1 && (sIx items.size items.size hi - sIx items.size 0 lo) == items.size) = true) := by
    intro q
    rw [Bool.and_eq_true, Bool.and_eq_true] at q
    have q1 : ((sIx items.size 0 lo : Nat) : Int) = 0 := eq_of_beq q.1.1
    have q2 : sIx items.size items.size hi - sIx items.size 0 lo = items.size := eq_of_beq q.2
    exact hw ⟨by omega, by omega⟩
  show wpAny _ _ (if (((sIx items.size 0 lo : Nat) : Int) == 0 && (1 : Int) == 1 && (sIx items.size items.size hi - sIx items.size 0 lo) == items.size) = true then _ else _) _ _ s
  rw [if_neg hno, pick_gen]
  first
    | exact wpAny_bind (m := Builtin.Tuple.tupleExact _) (wpAny_newObj_type (wpAny_pure ⟨_, rfl, wpAny_pure h⟩) htake)
    | exact wpAny_bind (m := Builtin.Tuple.tupleExact _) (wpAny_newObj_type (wpAny_bind (wpAny_pure (wpAny_pure ⟨_, rfl, wpAny_pure h⟩))) htake)
    | exact wpAny_bind (wpAny_bind (m := Builtin.Tuple.tupleExact _) (wpAny_newObj_type (wpAny_pure (wpAny_pure ⟨_, rfl, wpAny_pure h⟩)) htake))
    | exact wpAny_bind (wpAny_bind (m := Builtin.Tuple.tupleExact _) (wpAny_newObj_type (wpAny_pure ⟨_, rfl, wpAny_pure h⟩) htake))
end
end HT

namespace L2
open PySem PySem.Spec PyProof.Rows

/-! ### the parts of a slice -/
abbrev TO := St → Hp → (Option Int → Hp → Prop) → Prop
/-- a slice's part (left out, or an int) -/
def PO (X : Cx) (e : Option Expr) (t : TO) : Prop :=
  ∀ (pins : List (Addr × Obj)) (s : Shared) (σ : St) (H : Hp) (Q : Option Int → Hp → Prop), Inv X pins σ H s → t σ H Q →
    wpAny (model X.prog X.w) X.A (evalPart e X.env) (fun u s' => ∃ o H', Inv X pins σ H' s' ∧ IsPart u o ∧ Q o H') X.xe s
def tNoPart : TO := fun _ H Q => Q none H
def tPart (t : TE) : TO := fun σ H Q => t σ H fun x H1 => ∃ i, x = .int i ∧ Q (some i) H1

theorem intsAre_of {ns : List Int} : ∀ {us : List Value}, Vals (ns.map V.int) us → IntsAre us ns := by
  induction ns with
  | nil => intro us r; rw [List.map_nil] at r; cases r; exact .nil
  | cons n ns ih =>
    intro us r
    rw [List.map_cons] at r
    cases r with
    | cons r1 r2 =>
      obtain ⟨t, e⟩ := r1
      subst e
      exact .cons n t (ih r2)

section
variable {X : Cx} {e : Expr} {te : TE} {lo hi : Option Expr} {tl th : TO} {pos p2 : Pos}

theorem po_none : PO X none tNoPart := by
  intro pins s σ H Q I h
  rw [evalPart_none]
  exact wpAny_pure ⟨none, H, I, .none, h⟩
theorem po_some (h : PE X e te) : PO X (some e) (tPart te) := by
  intro pins s σ H Q I hw
  rw [evalPart_some]
  refine thn (h pins s σ H _ I hw) fun u s1 ⟨x, H1, I1, r1, q1⟩ => ?_
  obtain ⟨i, rfl, q⟩ := q1
  obtain ⟨t, rfl⟩ := r1
  exact ⟨some i, H1, I1, .int i t, q⟩

/-- what a slice of a value is, by values: the slice object stands at sl -/
def SlR (X : Cx) (r : V → Option Int → Option Int → Hp → VK → Prop) : Prop :=
  ∀ (pins : List (Addr × Obj)) (s : Shared) (σ : St) (H : Hp) (x : V) (v vl vu : Value) (lo hi : Option Int) (sl : Addr) (Q : VK), Inv X pins σ H s → RelV x v → s.heap.IsSliceOf sl vl vu .none → IsPart vl lo → IsPart vu hi → r x lo hi H Q →
    ∃ T id, typeLookup (.type T) "__getitem__" = pure (some (.builtin id)) ∧ s.TypeIs v T ∧ wpAny (model X.prog X.w) X.A (getItem v (.ref sl)) (EP X pins σ Q) X.xe s
theorem SlR.or {r r' : V → Option Int → Option Int → Hp → VK → Prop} (h : SlR X r) (h' : SlR X r') : SlR X (fun x lo hi H Q => r x lo hi H Q ∨ r' x lo hi H Q) := by
  intro pins s σ H x v vl vu lo hi sl Q I rx hs pl pu q
  rcases q with q | q
  · exact h pins s σ H x v vl vu lo hi sl Q I rx hs pl pu q
  · exact h' pins s σ H x v vl vu lo hi sl Q I rx hs pl pu q
def tSl (r : V → Option Int → Option Int → Hp → VK → Prop) (te : TE) (tl th : TO) : TE := fun σ H Q => te σ H fun x H1 => tl σ H1 fun l H2 => th σ H2 fun u H3 => r x l u H3 Q
/-- a[lo:hi], any a -/
theorem pe_slice {r : V → Option Int → Option Int → Hp → VK → Prop} (hr : SlR X r) (he : PE X e te) (hl : PO X lo tl) (hu : PO X hi th) : PE X (.Subscript e (.Slice lo hi none p2) pos) (tSl r te tl th) := by
  intro pins s σ H Q I h
  refine Subscript_ (thn (he pins s σ H _ I h) fun v s1 ⟨x, H1, I1, r1, q1⟩ => ?_)
  refine wpAny_Slice (thn (hl pins s1 σ H1 _ I1 q1) fun vl s2 ⟨l, H2, I2, pl, q2⟩ => thn (hu pins s2 σ H2 _ I2 q2) fun vu s3 ⟨u, H3, I3, pu, q3⟩ => ?_)
  rw [evalPart_none]
  refine wpAny_pure ?_
  have I4 : Inv X pins σ H3 { s3 with heap := s3.heap.push { cls := .type "slice", data := .fields #[vl, vu, .none] } } := I3.kept (t' := s3.toks) fun b ob q => Heap.get?_push_of_some _ q
  obtain ⟨T, id, hT, ht, hg⟩ := hr pins { s3 with heap := s3.heap.push { cls := .type "slice", data := .fields #[vl, vu, .none] } } σ H3 x v vl vu l u s3.heap.objs.size Q I4 r1 (Heap.IsSliceOf.new ..) pl pu q3
  show wpAny (model X.prog X.w) X.A (subscriptTail e (.Slice lo hi none p2) v (.ref s3.heap.objs.size)) (EP X pins σ Q) X.xe { s3 with heap := s3.heap.push { cls := .type "slice", data := .fields #[vl, vu, .none] } }
  exact tail_any (ops := [.ref s3.heap.objs.size, v]) ht hT hg (by with_unfolding_all rfl)

/-- the items of xs[lo:hi] -/
def cutV (xs : List V) (lo hi : Option Int) : List V := (xs.drop (HT.sIx xs.length 0 lo)).take (HT.sIx xs.length xs.length hi - HT.sIx xs.length 0 lo)
theorem cutV_length (xs : List V) (lo hi : Option Int) : (cutV xs lo hi).length ≤ xs.length := by
  unfold cutV
  rw [List.length_take, List.length_drop]
  omega
/-- t[lo:hi], not the whole of it (the whole would be t itself) -/
def rSlT (K : PySem.W.Frag) : V → Option Int → Option Int → Hp → VK → Prop := fun x lo hi H Q => ∃ a xs, x = .ref a ∧ SqT K H a xs ∧
  ¬ (HT.sIx xs.length 0 lo = 0 ∧ HT.sIx xs.length xs.length hi = xs.length) ∧ ∀ p, H p = none → Q (.ref p) (upd H p (.tup (cutV xs lo hi)))
theorem sl_tup : SlR X (rSlT X.K) := by
  intro pins s σ H x v vl vu lo hi sl Q I rx hs pl pu h
  obtain ⟨a, xs, rfl, hx, hw, q⟩ := h
  cases rx
  obtain ⟨its, r, ht, hz⟩ := I.tuple hx
  have hlen : its.toArray.size = xs.length := by rw [List.size_toArray]; exact r.length.symm
  refine ⟨"tuple", _, PyProof.Rows.slot_tuple_getitem.lookup, ht.typeIs, ?_⟩
  refine HT.getItem_tuple_cut ht hs pl pu (by rw [hlen]; exact hw) ?_ (by rw [hlen]; exact hz)
  rw [hlen]
  refine ⟨.ref s.heap.objs.size, _, I.laid (t' := s.toks) (o := .tup (cutV xs lo hi)) (fun b ob q => Heap.get?_push_of_some _ q) (Nat.le_refl _) ?_, rfl, q _ (I.hok.fresh (Nat.le_refl _))⟩
  exact ⟨Nat.le_trans (cutV_length xs lo hi) hz, _, (r.drop (HT.sIx xs.length 0 lo)).take (HT.sIx xs.length xs.length hi - HT.sIx xs.length 0 lo), IsTup.new _ _⟩

/-! ### t < u, t + u -/
def rLtT (K : PySem.W.Frag) : R2 := fun x y H Q => ∃ a b ns ms, x = .ref a ∧ y = .ref b ∧ SqT K H a (ns.map V.int) ∧ SqT K H b (ms.map V.int) ∧ Q (.bl (HT.lexLt ns ms)) H
/-- t + u, t not empty: u empty gives t itself -/
def rCatT (K : PySem.W.Frag) : R2 := fun x y H Q => ∃ a b xs ys, x = .ref a ∧ y = .ref b ∧ SqT K H a xs ∧ SqT K H b ys ∧ xs ≠ [] ∧ xs.length + ys.length ≤ sizeLine ∧
  (ys = [] → Q (.ref a) H) ∧ (ys ≠ [] → ∀ p, H p = none → Q (.ref p) (upd H p (.tup (xs ++ ys))))
theorem Vals.nil_iff {xs : List V} {us : List Value} (r : Vals xs us) : us = [] ↔ xs = [] := by
  cases r with
  | nil => simp
  | cons _ _ => simp
theorem op_catT : OpR X (binaryOp .Add) (rCatT X.K) := by
  intro pins s σ H x y v u Q I rx ry h
  obtain ⟨a, b, xs, ys, rfl, rfl, ha, hb, hx, hz, q1, q2⟩ := h
  cases rx
  cases ry
  obtain ⟨its, r1, p1, _⟩ := I.tuple ha
  obtain ⟨its2, r2, p2, _⟩ := I.tuple hb
  refine HT.cat_tup p1 p2 (fun z => hx (r1.nil_iff.mp z)) (fun z => ⟨.ref a, H, I, rfl, q1 (r2.nil_iff.mp z)⟩) (fun z => ?_) (by rw [← r1.length, ← r2.length]; exact hz)
  refine ⟨.ref s.heap.objs.size, _, I.laid (t' := s.toks) (o := .tup (xs ++ ys)) (fun b ob q => Heap.get?_push_of_some _ q) (Nat.le_refl _) ?_, rfl, q2 (fun w => z (r2.nil_iff.mpr w)) _ (I.hok.fresh (Nat.le_refl _))⟩
  exact ⟨by rw [List.length_append]; exact hz, _, r1.append r2, IsTup.new _ _⟩
end
end L2

namespace L2
open PySem PySem.Spec PyProof.Rows

/-! ### places -/
/-- the place that an index of any sign means -/
def ixN (n : Nat) (i : Int) : Option Nat := if 0 ≤ i then (if i < n then some i.toNat else none) else if -(n : Int) ≤ i then some (i + n).toNat else none
def atI {α : Type} (xs : List α) (i : Int) : Option α := (ixN xs.length i).bind fun j => xs[j]?
theorem ixN_seq {n : Nat} {i : Int} {j : Nat} (h : ixN n i = some j) : seqIndex? i n = some j ∧ j < n ∧ -(n : Int) ≤ i ∧ i < n := by
  unfold ixN at h
  by_cases h0 : 0 ≤ i
  · rw [if_pos h0] at h
    by_cases h1 : i < n
    · rw [if_pos h1] at h
      have e : i.toNat = j := Option.some.inj h
      exact ⟨by rw [seqIndex_of h0 h1, e], by omega, by omega, h1⟩
    · rw [if_neg h1] at h; cases h
  · rw [if_neg h0] at h
    by_cases h1 : -(n : Int) ≤ i
    · rw [if_pos h1] at h
      have e : (i + n).toNat = j := Option.some.inj h
      exact ⟨by rw [seqIndex_neg (by omega) h1, e], by omega, h1, by omega⟩
    · rw [if_neg h1] at h; cases h
theorem atI_get {α : Type} {xs : List α} {i : Int} {v : α} (h : atI xs i = some v) : ∃ j, seqIndex? i xs.length = some j ∧ xs[j]? = some v ∧ j < xs.length ∧ -(xs.length : Int) ≤ i ∧ i < xs.length := by
  unfold atI at h
  cases e : ixN xs.length i with
  | none => rw [e] at h; cases h
  | some j =>
    rw [e] at h
    obtain ⟨h1, h2, h3, h4⟩ := ixN_seq e
    exact ⟨j, h1, h, h2, h3, h4⟩
/-! ### what may be subscripted -/
/-- what stands as an index of a plain subscript -/
def PlainIx (b : Expr) : Prop := ∀ o i, subscripted b false o i = operate [o, i] (getItem o i)
/-- a subscript by values -/
def IxR (X : Cx) (r : R2) : Prop :=
  ∀ (value slice : Expr) (pins : List (Addr × Obj)) (s : Shared) (σ : St) (H : Hp) (x y : V) (v u : Value) (Q : VK), Inv X pins σ H s → RelV x v → RelV y u → r x y H Q →
    subscripted slice false v u = operate [v, u] (getItem v u) → wpAny (model X.prog X.w) X.A (subscriptTail value slice v u) (EP X pins σ Q) X.xe s
/-- a call of a builtin's method by values: the receiver, the arguments -/
def MtR (X : Cx) (id : String) (r : V → List V → Hp → VK → Prop) : Prop :=
  ∀ (pins : List (Addr × Obj)) (s : Shared) (σ : St) (H : Hp) (x : V) (xs : List V) (v : Value) (us : List Value) (Q : VK), Inv X pins σ H s → RelV x v → Vals xs us → r x xs H Q →
    wpAny (model X.prog X.w) X.A (call (.builtin id) (v :: us)) (EP X pins σ Q) X.xe s
section
variable {X : Cx} {a b : Expr} {ta tb : TE} {pos : Pos}
theorem IxR.or {r r' : R2} (h : IxR X r) (h' : IxR X r') : IxR X (fun x y H Q => r x y H Q ∨ r' x y H Q) := by
  intro value slice pins s σ H x y v u Q I rx ry q hs
  rcases q with q | q
  · exact h value slice pins s σ H x y v u Q I rx ry q hs
  · exact h' value slice pins s σ H x y v u Q I rx ry q hs
theorem MtR.or {id : String} {r r' : V → List V → Hp → VK → Prop} (h : MtR X id r) (h' : MtR X id r') : MtR X id (fun x xs H Q => r x xs H Q ∨ r' x xs H Q) := by
  intro pins s σ H x xs v us Q I rx rs q
  rcases q with q | q
  · exact h pins s σ H x xs v us Q I rx rs q
  · exact h' pins s σ H x xs v us Q I rx rs q
/-- a[b] -/
theorem pe_ix {r : R2} (hr : IxR X r) (ha : PE X a ta) (hb : PE X b tb) (hs : PlainIx b) : PE X (.Subscript a b pos) (tOp r ta tb) := by
  intro pins s σ H Q I h
  exact Subscript_ (binT ha hb I h fun v u s2 x y H2 I2 rx ry q => hr a b pins s2 σ H2 x y v u Q I2 rx ry q (hs _ _))

def rIxL (K : PySem.W.Frag) : R2 := fun x y H Q => ∃ p xs i v, x = .ref p ∧ y = .int i ∧ SqL K H p xs ∧ atI xs i = some v ∧ Q v H
def rIxT (K : PySem.W.Frag) : R2 := fun x y H Q => ∃ p xs i v, x = .ref p ∧ y = .int i ∧ SqT K H p xs ∧ atI xs i = some v ∧ Q v H
def rIxS : R2 := fun x y H Q => ∃ z i c, x = .str z ∧ y = .int i ∧ z.length ≤ sizeLine ∧ atI z.cps.toList i = some c ∧ Q (.str ⟨#[c]⟩) H
theorem ix_list : IxR X (rIxL X.K) := by
  intro value slice pins s σ H x y v u Q I rx ry h hs
  obtain ⟨p, xs, i, z, rfl, rfl, hq, he, q⟩ := h
  cases rx
  obtain ⟨t, rfl⟩ := ry
  obtain ⟨its, r, pl, hz⟩ := I.list hq
  obtain ⟨j, h1, h2, h3, h4, h5⟩ := atI_get he
  obtain ⟨w, ew, rw'⟩ := r.get h2
  have hl := r.length
  have hn := line63
  have fin : EP X pins σ Q w s := ⟨z, H, I, rw', q⟩
  by_cases h0 : 0 ≤ i
  · have hj : i.toNat = j := by
      rw [seqIndex_of h0 h5] at h1
      exact Option.some.inj h1
    exact item_listR pl.isList h0 (by omega) (by rw [hj]; simpa using ew) fin hs
  · have hj : (i + (its.toArray.size : Int)).toNat = j := by
      rw [seqIndex_neg (by omega) h4] at h1
      rw [List.size_toArray, ← hl]
      exact Option.some.inj h1
    exact subscriptTail_builtinR (x := w) pl.isList.typeIs slot_list_getitem.lookup
      (wpAny_getItem_list_neg (Q := fun r s' => r = w ∧ EP X pins σ Q r s') pl.isList (by omega) (by rw [List.size_toArray] <;> omega) (by omega) (by rw [hj]; simpa using ew) ⟨rfl, fin⟩) hs
theorem ix_tup : IxR X (rIxT X.K) := by
  intro value slice pins s σ H x y v u Q I rx ry h hs
  obtain ⟨p, xs, i, z, rfl, rfl, hq, he, q⟩ := h
  cases rx
  obtain ⟨t, rfl⟩ := ry
  obtain ⟨its, r, pl, hz⟩ := I.tuple hq
  obtain ⟨j, h1, h2, h3, h4, h5⟩ := atI_get he
  obtain ⟨w, ew, rw'⟩ := r.get h2
  have hl := r.length
  have hn := line63
  have fin : EP X pins σ Q w s := ⟨z, H, I, rw', q⟩
  exact subscriptTail_builtinR (x := w) pl.typeIs slot_tuple_getitem.lookup
    (getItem_tuple (j := j) (Q := fun r s' => r = w ∧ EP X pins σ Q r s') pl (by omega) (by omega) (by rw [List.size_toArray, ← hl]; exact h1) (by simpa using ew) ⟨rfl, fin⟩) hs
theorem ix_str : IxR X rIxS := by
  intro value slice pins s σ H x y v u Q I rx ry h hs
  obtain ⟨z, i, c, rfl, rfl, hz, he, q⟩ := h
  obtain ⟨t, rfl⟩ := rx
  obtain ⟨t', rfl⟩ := ry
  obtain ⟨j, h1, h2, h3, h4, h5⟩ := atI_get he
  have hl : z.cps.toList.length = z.length := by simp [Str.length]
  rw [hl] at h1 h4 h5
  have hn := line63
  exact tail_any (typeIs_str s z t) slot_str_getitem.lookup (getItem_str (c := c) (by
    have e1 : decide (i < -(2 ^ 63 : Int)) = false := decide_eq_false (by omega)
    have e2 : decide (i ≥ 2 ^ 63) = false := decide_eq_false (by omega)
    rw [e1, e2, Bool.or_false]) (by rw [h1]; simpa using h2) ⟨.str ⟨#[c]⟩, H, I.tok _, ⟨_, rfl⟩, q⟩) hs
/-- list, tuple or str -/
def rIx (K : PySem.W.Frag) : R2 := fun x y H Q => rIxL K x y H Q ∨ rIxT K x y H Q ∨ rIxS x y H Q
theorem ix_seq : IxR X (rIx X.K) := ix_list.or (ix_tup.or ix_str)

/-! ### xs[i] = v, any sign -/
theorem Inv.lst {pins : List (Addr × Obj)} {σ : St} {H : Hp} {s : Shared} {p : Addr} {xs : List V} (I : Inv X pins σ H s) (h : H p = some (.lst xs)) :
    ∃ (its : List Value) (n : Nat), Vals xs its ∧ s.heap.get? p = some { cls := .type "list", data := .seq its.toArray n } ∧ xs.length ≤ sizeLine := by
  obtain ⟨z, its, n, r, e⟩ := I.hok p _ h
  exact ⟨its, n, r, e, z⟩
def rSetL : V → V → V → Hp → (Hp → Prop) → Prop := fun o i v H Q => ∃ p xs k j, o = .ref p ∧ i = .int k ∧ H p = some (.lst xs) ∧ ixN xs.length k = some j ∧ Q (upd H p (.lst (xs.set j v)))
/-! ### slices -/
theorem slice_bounds (lo hi : Option Int) (n : Nat) : (sliceBounds lo hi none n).1 = ((HT.sIx n 0 lo : Nat) : Int) ∧ (sliceBounds lo hi none n).2.1 = ((HT.sIx n n hi : Nat) : Int) ∧ (sliceBounds lo hi none n).2.2 = 1 := by
  refine ⟨?_, ?_, rfl⟩
  · cases lo with
    | none => simp [sliceBounds, HT.sIx]
    | some i =>
      simp only [sliceBounds, HT.sIx, Option.getD_none, show (1 : Int) > 0 by decide, if_true]
      by_cases h : i < 0
      · simp only [h, if_true] <;> omega
      · simp only [h, if_false] <;> omega
  · cases hi with
    | none => simp [sliceBounds, HT.sIx]
    | some i =>
      simp only [sliceBounds, HT.sIx, Option.getD_none, show (1 : Int) > 0 by decide, if_true]
      by_cases h : i < 0
      · simp only [h, if_true] <;> omega
      · simp only [h, if_false] <;> omega
theorem slicePick_cut (its : List Value) (lo hi : Option Int) : slicePick its.toArray lo hi none = ((its.drop (HT.sIx its.length 0 lo)).take (HT.sIx its.length its.length hi - HT.sIx its.length 0 lo)).toArray := by
  obtain ⟨h1, h2, h3⟩ := slice_bounds lo hi its.toArray.size
  unfold slicePick
  rw [h1, h2, h3]
  simp only [sliceRange_one, pick_run, List.size_toArray] <;> rfl
/-- xs[lo:hi] of a list: a new list -/
def rSlL (K : PySem.W.Frag) : V → Option Int → Option Int → Hp → VK → Prop := fun x lo hi H Q => ∃ a xs, x = .ref a ∧ SqL K H a xs ∧ ∀ p, H p = none → Q (.ref p) (upd H p (.lst (cutV xs lo hi)))
theorem sl_list : SlR X (rSlL X.K) := by
  intro pins s σ H x v vl vu lo hi sl Q I rx hs pl pu h
  obtain ⟨a, xs, rfl, hx, q⟩ := h
  cases rx
  obtain ⟨its, r, ht, hz⟩ := I.list hx
  have hlen := r.length
  refine ⟨"list", _, slot_list_getitem.lookup, ht.isList.typeIs, ?_⟩
  refine wpAny_getItem_list_slice ht.isList hs pl pu .none (by simp) ?_ (by rw [List.size_toArray] <;> omega)
  rw [slicePick_cut, ← hlen]
  refine ⟨.ref s.heap.objs.size, _, I.laid (t' := s.toks) (o := .lst (cutV xs lo hi)) (fun b ob q => Heap.get?_push_of_some _ q) (Nat.le_refl _) ?_, rfl, q _ (I.hok.fresh (Nat.le_refl _))⟩
  exact ⟨Nat.le_trans (cutV_length xs lo hi) hz, _, 0, (r.drop (HT.sIx xs.length 0 lo)).take (HT.sIx xs.length xs.length hi - HT.sIx xs.length 0 lo), Heap.get?_push_size _ rfl⟩

/-! ### in, not in: flat items -/
def flatV : V → Bool
  | .non => true
  | .bl _ => true
  | .int _ => true
  | .str _ => true
  | _ => false
/-- == of flat values -/
def eqV : V → V → Bool
  | .non, .non => true
  | .bl a, .bl b => a == b
  | .bl a, .int b => (if a then 1 else 0) == b
  | .int a, .bl b => a == (if b then 1 else 0)
  | .int a, .int b => a == b
  | .str a, .str b => a == b
  | _, _ => false
/-- the items' answers, read off the values (a value's own answer does not lean on its token) -/
def eqU (x : V) (u : Value) : Bool := match u with
  | .none => eqV .non x
  | .bool b => eqV (.bl b) x
  | .int i _ => eqV (.int i) x
  | .str z _ => eqV (.str z) x
  | _ => false
def inV (x : V) (xs : List V) : Bool := xs.any fun y => eqV y x
/-- x in a list or tuple of flat items -/
def rIn (K : PySem.W.Frag) (neg : Bool) : R2 := fun x y H Q => ∃ p xs, y = .ref p ∧ (SqL K H p xs ∨ SqT K H p xs) ∧ flatV x = true ∧ xs.all flatV = true ∧ Q (.bl (if neg then !inV x xs else inV x xs)) H
/-! ### len, list(x), tuple(x) of any list or tuple that is read -/
theorem call_len_seq : CallR X (.builtin "len") (fun xs H Q => ∃ p ys, xs = [.ref p] ∧ (SqL X.K H p ys ∨ SqT X.K H p ys) ∧ Q (.int ys.length) H) := by
  intro pins s σ H xs us Q I r h
  obtain ⟨p, ys, rfl, hq, q⟩ := h
  obtain ⟨u, rfl, rx⟩ := vals1 r
  cases rx
  have hn := line63
  rcases hq with hq | hq
  · obtain ⟨its, r', pl, hz⟩ := I.list hq
    have hlen := r'.length
    exact Calls.call_len_list pl.isList (by simp only [List.size_toArray] <;> omega) ⟨.int ys.length, H, I.tok _, ⟨s.toks + 1, by rw [List.size_toArray, hlen]⟩, q⟩
  · obtain ⟨its, r', pl, hz⟩ := I.tuple hq
    have hlen := r'.length
    exact len_tuple pl (by simp only [List.size_toArray] <;> omega) ⟨.int ys.length, H, I.tok _, ⟨s.toks + 1, by rw [List.size_toArray, hlen]⟩, q⟩
theorem call_len_str : CallR X (.builtin "len") (fun xs H Q => ∃ z, xs = [.str z] ∧ z.length ≤ sizeLine ∧ Q (.int z.length) H) := by
  intro pins s σ H xs us Q I r h
  obtain ⟨z, rfl, hz, q⟩ := h
  obtain ⟨u, rfl, t, rfl⟩ := vals1 r
  have hn := line63
  exact len_str (by omega) ⟨.int z.length, H, I.tok _, ⟨_, rfl⟩, q⟩
theorem CallR.or {f : Value} {r r' : List V → Hp → VK → Prop} (h : CallR X f r) (h' : CallR X f r') : CallR X f (fun xs H Q => r xs H Q ∨ r' xs H Q) := by
  intro pins s σ H xs us Q I rs q
  rcases q with q | q
  · exact h pins s σ H xs us Q I rs q
  · exact h' pins s σ H xs us Q I rs q
theorem call_list_of : CallR X (.type "list") (fun xs H Q => ∃ p ys, xs = [.ref p] ∧ (SqL X.K H p ys ∨ SqT X.K H p ys) ∧ ∀ l, H l = none → Q (.ref l) (upd H l (.lst ys))) := by
  intro pins s σ H xs us Q I r h
  obtain ⟨p, ys, rfl, hq, q⟩ := h
  obtain ⟨u, rfl, rx⟩ := vals1 r
  cases rx
  have fin : ∀ (its : List Value), Vals ys its → ys.length ≤ sizeLine → ∀ (h' : Heap) (c' : Nat), (∀ b o', s.heap.get? b = some o' → h'.get? b = some o') →
      h'.get? s.heap.objs.size = some { cls := .type "list", dict := none, data := .seq its.toArray c', slots := #[] } → EP X pins σ Q (.ref s.heap.objs.size) { s with heap := h' } := fun its r' hz h' c' kp e =>
    ⟨.ref s.heap.objs.size, _, I.laid (t' := s.toks) kp (Nat.le_refl _) (show ObjOk X.prog X.w _ h' _ (.lst ys) from ⟨hz, its, c', r', e⟩), rfl, q _ (I.hok.fresh (Nat.le_refl _))⟩
  rcases hq with hq | hq
  · obtain ⟨its, r', pl, hz⟩ := I.list hq
    have hlen := r'.length
    obtain ⟨o, ho, hc, n, hd⟩ := pl.isList
    exact call_list_seq p (.inl rfl) ho hc hd (fun h' c' kp e => fin its r' hz h' c' kp e) (by simp only [List.size_toArray] <;> omega)
  · obtain ⟨its, r', pl, hz⟩ := I.tuple hq
    have hlen := r'.length
    obtain ⟨o, ho, hc, n, hd⟩ := pl
    exact call_list_seq p (.inr rfl) ho hc hd (fun h' c' kp e => fin its r' hz h' c' kp e) (by simp only [List.size_toArray] <;> omega)
theorem call_tuple_of : CallR X (.type "tuple") (fun xs H Q => ∃ p ys, xs = [.ref p] ∧ ((SqL X.K H p ys ∧ ∀ l, H l = none → Q (.ref l) (upd H l (.tup ys))) ∨ (SqT X.K H p ys ∧ Q (.ref p) H))) := by
  intro pins s σ H xs us Q I r h
  obtain ⟨p, ys, rfl, h⟩ := h
  obtain ⟨u, rfl, rx⟩ := vals1 r
  cases rx
  rcases h with ⟨hq, q⟩ | ⟨hq, q⟩
  · obtain ⟨its, r', pl, hz⟩ := I.list hq
    have hlen := r'.length
    refine call_tuple_list pl.isList (fun h' kp => ?_) (by simp only [List.size_toArray] <;> omega)
    have I1 : Inv X pins σ H { s with heap := h' } := I.kept (t' := s.toks) kp
    have I2 : Inv X pins σ (upd H h'.objs.size (.tup ys)) { s with heap := h'.push { cls := .type "tuple", data := .seq its.toArray } } :=
      I1.laid (t' := s.toks) (fun b o e => Heap.get?_push_of_some _ e) (Nat.le_refl _) (show ObjOk X.prog X.w _ _ _ (.tup ys) from ⟨hz, its, r', IsTup.new _ _⟩)
    exact ⟨.ref h'.objs.size, _, I2, rfl, q _ (I1.hok.fresh (Nat.le_refl _))⟩
  · obtain ⟨its, r', pl, hz⟩ := I.tuple hq
    exact call_tuple_same pl ⟨.ref p, H, I, rfl, q⟩

/-! ### the call of a builtin's method: o.m(..) -/
/-- the value is of that builtin type -/
def tyV (K : PySem.W.Frag) (T : String) (x : V) (H : Hp) : Prop := match x with
  | .str _ => T = "str"
  | .int _ => T = "int"
  | .ref p => (T = "list" ∧ ∃ xs, SqL K H p xs) ∨ (T = "tuple" ∧ ∃ o, K.lookup p = some o ∧ o.cls = .type "tuple" ∧ o.dict = none) ∨
      (T = "dict" ∧ ((∃ kvs, H p = some (.dK kvs)) ∨ ∃ kvs, H p = some (.dT kvs))) ∨ (T = "set" ∧ ∃ S n, H p = some (.set S n))
  | _ => False
theorem tyV_is {pins : List (Addr × Obj)} {σ : St} {H : Hp} {s : Shared} {T : String} {x : V} {v : Value} (I : Inv X pins σ H s) (r : RelV x v) (ty : tyV X.K T x H) :
    s.TypeIs v T ∧ ∀ a, v = .ref a → ∃ ob, s.heap.get? a = some ob ∧ ob.dict = none := by
  cases x with
  | str z =>
    obtain ⟨t, rfl⟩ := r
    cases (show T = "str" from ty)
    exact ⟨typeIs_str s z t, fun _ e => nomatch e⟩
  | int i =>
    obtain ⟨t, rfl⟩ := r
    cases (show T = "int" from ty)
    exact ⟨typeIs_int s i t, fun _ e => nomatch e⟩
  | ref p =>
    cases r
    rcases ty with ⟨rfl, xs, hq⟩ | ⟨rfl, o, hk, hc, hd⟩ | ⟨rfl, hk⟩ | ⟨rfl, S, n, hk⟩
    · obtain ⟨its, _, pl, _⟩ := I.list hq
      refine ⟨pl.isList.typeIs, fun a e => ?_⟩
      cases e
      obtain ⟨o, n, e, c, hd, _⟩ := pl
      exact ⟨o, e, hd⟩
    · refine ⟨⟨o, I.kIn p o hk, hc⟩, fun a e => ?_⟩
      cases e
      exact ⟨o, I.kIn _ o hk, hd⟩
    · have z : ∃ o, s.heap.get? p = some o ∧ o.ExactDict := by
        rcases hk with ⟨kvs, hk⟩ | ⟨kvs, hk⟩
        · obtain ⟨_, _, _, _, o, _, _, e, ex, _⟩ := I.hok p _ hk
          exact ⟨o, e, ex⟩
        · obtain ⟨_, _, _, _, o, _, _, e, ex, _⟩ := I.hok p _ hk
          exact ⟨o, e, ex⟩
      obtain ⟨o, e, ex⟩ := z
      refine ⟨⟨o, e, ex.1⟩, fun a e2 => ?_⟩
      cases e2
      exact ⟨o, e, ex.2.1⟩
    · obtain ⟨o, _, _, _, e, ex, _⟩ := I.hok p _ hk
      refine ⟨⟨o, e, ex.1⟩, fun a e2 => ?_⟩
      cases e2
      exact ⟨o, e, ex.2.1⟩
  | _ => exact False.elim ty
def tBM0 (K : PySem.W.Frag) (T : String) (r : V → List V → Hp → VK → Prop) (to : TE) : TE := fun σ H Q => to σ H fun x H1 => tyV K T x H1 ∧ r x [] H1 Q
def tBM (K : PySem.W.Frag) (T : String) (r : V → List V → Hp → VK → Prop) (to : TE) (t : TA) : TE := fun σ H Q => to σ H fun x H1 => tyV K T x H1 ∧ t σ H1 fun xs H2 => r x xs H2 Q
variable {o e : Expr} {es : List Expr} {to : TE} {t : TA} {name : Str} {apos cpos : Pos} {T id : String} {r : V → List V → Hp → VK → Prop}
theorem pe_bm (pa : PlainAttrs T) (slot : Slot T name id) (hty : typeOf (.builtin id) = pure (.type "method_descriptor")) (hm : MtR X id r) (ho : PE X o to) (ha : PA X (e :: es) t)
    (hbase : attributeBase o name X.env (eval o X.env) = eval o X.env := by rfl)
    (hfew : ((backTo cpos (starEach (e :: es) X.env)).all (fun x => !x.1) && (backToKw cpos (keywordEach [] X.env)).all (fun x => x.1.isSome)
      && decide ((e :: es).length + ([] : List Keyword).length + (if ([] : List Keyword).isEmpty then 0 else 1) < 30)) = true := by rfl)
    (hline : (apos.endLine == cpos.line) = true := by rfl) (hs : starEach (e :: es) X.env = (false, eval e X.env) :: starEach es X.env := by rfl) (hplain : (backTo cpos (starEach es X.env)).any (·.1) = false := by rfl) :
    PE X (.Call (.Attribute o name apos) (e :: es) [] cpos) (tBM X.K T r to t) := by
  intro pins s σ H Q I h
  refine wpAny_Call_method_late hbase hfew hline rfl (thn (ho pins s σ H _ I h) fun v s1 ⟨x, H1, I1, r1, ty, q1⟩ => ?_)
  obtain ⟨h1, h2⟩ := tyV_is I1 r1 ty
  refine ⟨T, id, pa, slot, hty, h1, h2, ?_⟩
  have hA := ha cpos pins s1 σ H1 _ I1 q1
  rw [hs] at hA ⊢
  refine Calls.callWith_builtin (by show (false || (backTo cpos (starEach es X.env)).any (·.1)) = false; rw [hplain] <;> rfl) (Calls.evalArgs_plain ?_)
  exact thn hA fun us s2 ⟨vs, H2, I2, r2, q2⟩ => hm pins s2 σ H2 x vs v us Q I2 r1 r2 q2
/- xs.append(e), list.index on a module's tuple .. are MtR facts of 06m -/
end
end L2

namespace L2
open PySem PySem.Spec PyProof.Rows

def MtM (X : Cx) (id : String) (r : V → List V → Hp → VK → Prop) : Prop :=
  ∀ (pins : List (Addr × Obj)) (s : Shared) (σ : St) (H : Hp) (x : V) (xs : List V) (v : Value) (us : List Value) (Q : VK), Inv X pins σ H s → RelV x v → Vals xs us → r x xs H Q →
    wpAny (model X.prog X.w) X.A (call (.builtin id) (v :: us)) (EP X pins σ Q) X.xe s

/-! ### lists of values -/
theorem Vals.one : ∀ {x : V} {us : List Value}, Vals [x] us → ∃ u, us = [u] ∧ RelV x u
  | _, _, .cons r .nil => ⟨_, rfl, r⟩
theorem Vals.two : ∀ {x y : V} {us : List Value}, Vals [x, y] us → ∃ u v, us = [u, v] ∧ RelV x u ∧ RelV y v
  | _, _, _, .cons r (.cons q .nil) => ⟨_, _, rfl, r, q⟩
theorem Vals.zero : ∀ {us : List Value}, Vals [] us → us = []
  | _, .nil => rfl
theorem Vals.dropLast {xs : List V} {us : List Value} (h : Vals xs us) : Vals xs.dropLast us.dropLast := by
  induction h with
  | nil => exact .nil
  | cons r t ih =>
    cases t with
    | nil => exact .nil
    | cons q t' => exact .cons r ih
theorem Vals.eraseIdx : ∀ {xs : List V} {us : List Value} (i : Nat), Vals xs us → Vals (xs.eraseIdx i) (us.eraseIdx i)
  | _, _, _, .nil => .nil
  | _, _, 0, .cons _ t => t
  | _, _, i + 1, .cons r t => .cons r (Vals.eraseIdx i t)
theorem Vals.reverse {xs : List V} {us : List Value} (h : Vals xs us) : Vals xs.reverse us.reverse := by
  induction h with
  | nil => exact .nil
  | cons r t ih => rw [List.reverse_cons, List.reverse_cons]; exact Vals.append ih (.cons r .nil)
theorem Vals.rep {xs : List V} {us : List Value} (h : Vals xs us) : ∀ k : Nat, Vals (List.replicate k xs).flatten (List.replicate k us).flatten
  | 0 => .nil
  | k + 1 => by
    rw [List.replicate_succ, List.replicate_succ, List.flatten_cons, List.flatten_cons]
    exact Vals.append h (Vals.rep h k)
section
variable {X : Cx} {pins : List (Addr × Obj)} {σ : St} {H : Hp} {s : Shared} {l b : Addr} {xs ys zs : List V}

/-! ### the two steps: a tracked list is rewritten, a new list is laid -/
theorem Inv.lset {its its' : List Value} {n : Nat} {f : Array Value → Array Value} {t' : Nat} (I : Inv X pins σ H s) (hH : H l = some (.lst xs))
    (e : s.heap.get? l = some { cls := .type "list", data := .seq its.toArray n }) (hf : f its.toArray = its'.toArray) (hv : Vals ys its') (hz : ys.length ≤ sizeLine) :
    Inv X pins σ (upd H l (.lst ys)) { s with heap := s.heap.update l (Obj.mapSeq f), toks := t' } := by
  have q := PySem.IsL.update e f
  rw [hf] at q
  refine I.write (x := l) (e := l) (by rw [hH]; exact trivial) (.inl rfl) (fun b' u hb hu => (Heap.get?_update_other s.heap (Obj.mapSeq f) (Ne.symm hb)).trans hu) ⟨_, q⟩ ?_
  exact ⟨hz, its', _, hv, q⟩
theorem Inv.lnew {its : List Value} {t' : Nat} (I : Inv X pins σ H s) (hv : Vals ys its) (hz : ys.length ≤ sizeLine) :
    Inv X pins σ (upd H s.heap.objs.size (.lst ys)) { s with heap := s.heap.push { cls := .type "list", data := .seq its.toArray }, toks := t' } :=
  I.laid (fun _ _ q => Heap.get?_push_of_some _ q) (Nat.le_refl _) ⟨hz, its, 0, hv, Heap.get?_push_size _ rfl⟩
theorem Inv.fresh (I : Inv X pins σ H s) : H s.heap.objs.size = none := I.hok.fresh (Nat.le_refl _)
theorem Inv.lstM (I : Inv X pins σ H s) (hH : H l = some (.lst xs)) : xs.length ≤ sizeLine ∧ ∃ (its : List Value) (n : Nat), Vals xs its ∧ xs.length = its.length ∧ s.heap.get? l = some { cls := .type "list", data := .seq its.toArray n } := by
  obtain ⟨z, its, n, r, e⟩ := I.hok l _ hH
  exact ⟨z, its, n, r, r.length, e⟩

theorem notLongL {n : Nat} (h : n ≤ sizeLine) : Builtin.List.listTooLong n = false := by
  unfold Builtin.List.listTooLong
  exact decide_eq_false (by omega)
end

section
variable {X : Cx}

/-! ### methods -/
def rAppend : V → List V → Hp → VK → Prop := fun x vs H Q => ∃ l xs y, x = .ref l ∧ vs = [y] ∧ H l = some (.lst xs) ∧ xs.length < sizeLine ∧ Q .non (upd H l (.lst (xs ++ [y])))
theorem mt_append : MtM X "list.append" rAppend := by
  intro pins s σ H x vs v us Q I rx rv h
  obtain ⟨l, xs, y, rfl, rfl, hH, hz, q⟩ := h
  cases rx
  obtain ⟨u, rfl, ru⟩ := rv.one
  obtain ⟨z, its, n, r, hl, e⟩ := I.lstM hH
  refine call_meets F.slot_list_append ⟨_, e, rfl⟩ F.entry_list_append (F.args_list_append_2 _ _) (PySem.list_append l its.toArray n u (by rw [List.size_toArray]; omega)) ⟨e, ?_⟩
  refine ⟨.non, _, I.lset (its' := its ++ [u]) hH e (by simp) (r.append (.cons ru .nil)) ?_, rfl, q⟩
  rw [List.length_append, List.length_singleton]
  omega

def rExtend : V → List V → Hp → VK → Prop := fun x vs H Q => ∃ l b xs zs, x = .ref l ∧ vs = [.ref b] ∧ H l = some (.lst xs) ∧ H b = some (.lst zs) ∧ xs.length + zs.length ≤ sizeLine ∧ Q .non (upd H l (.lst (xs ++ zs)))
def rPop : V → List V → Hp → VK → Prop := fun x vs H Q => ∃ l xs y, x = .ref l ∧ vs = [] ∧ H l = some (.lst xs) ∧ xs[xs.length - 1]? = some y ∧ Q y (upd H l (.lst xs.dropLast))
def rPopAt : V → List V → Hp → VK → Prop := fun x vs H Q => ∃ l xs i k y, x = .ref l ∧ vs = [.int i] ∧ H l = some (.lst xs) ∧ -(2 ^ 63) ≤ i ∧ i < 2 ^ 63 ∧ seqIndex? i xs.length = some k ∧ xs[k]? = some y ∧ Q y (upd H l (.lst (xs.eraseIdx k)))
def rReverse : V → List V → Hp → VK → Prop := fun x vs H Q => ∃ l xs, x = .ref l ∧ vs = [] ∧ H l = some (.lst xs) ∧ Q .non (upd H l (.lst xs.reverse))
def rClear : V → List V → Hp → VK → Prop := fun x vs H Q => ∃ l xs, x = .ref l ∧ vs = [] ∧ H l = some (.lst xs) ∧ Q .non (upd H l (.lst []))
/-! ### list + list, list += list, list * int -/
def rCat : R2 := fun x y H Q => ∃ l b xs zs, x = .ref l ∧ y = .ref b ∧ H l = some (.lst xs) ∧ H b = some (.lst zs) ∧ xs.length + zs.length ≤ sizeLine ∧ ∀ p, H p = none → Q (.ref p) (upd H p (.lst (xs ++ zs)))
/-- a list times an int (a negative one is nothing) -/
def rRep : R2 := fun x y H Q => ∃ l k xs, x = .ref l ∧ y = .int k ∧ H l = some (.lst xs) ∧ -(2 ^ 63) ≤ k ∧ k < 2 ^ 63 ∧ xs.length * k.toNat ≤ sizeLine ∧
  ∀ p, H p = none → Q (.ref p) (upd H p (.lst (List.replicate k.toNat xs).flatten))
/-! ### del xs[i] -/
end

/-! ### xs[a:b] = ys -/
section
variable {prog : Program} {w : World} {A : Around} {E : Value → Shared → Prop} {s : Shared}
end

section
variable {X : Cx}
end
end L2

namespace Att
open PySem PySem.W PySem.Calls PyProof.Rows

/-! ### the script -/
theorem ints_of_wellAll {P : Params} {h : Heap} : ∀ (ns : List Int) (vs : List Value), WellAll P h vs (ns.map WData.int) → IntsAre vs ns := by
  intro ns
  induction ns with
  | nil =>
    intro vs w
    rw [List.map_nil] at w
    cases w
    exact .nil
  | cons n ns ih =>
    intro vs w
    rw [List.map_cons] at w
    cases w with
    | cons a b =>
      cases a
      exact .cons _ _ (ih _ b)

theorem script_of {l : OpenLaw} {n : Nat} (hn : l.most = some n) {P : Params} {h : Heap} {args : List WData} {vals : List Value}
    (hpre : l.row.toRowW.claim.pre args = true) (hwl : WellAll P h vals args) :
    ∃ a vs ns, vals = [Value.ref a] ∧ args = [WData.list (ns.map WData.int)] ∧ h.get? a = some { cls := .type "list", data := .seq vs.toArray } ∧ IntsAre vs ns ∧ ns.length ≤ n := by
  have hsh : WShape.hasAll [] args [.list .int] = true := (pre_splitW hpre).1
  have hc : l.pre.holds [] { args := args } = true := (pre_splitW hpre).2
  obtain ⟨d, r, rfl, h1, h2⟩ := hasAllW_cons hsh
  obtain rfl := hasAllW_nil h2
  obtain ⟨xs, rfl, h3⟩ := hasW_list h1
  obtain ⟨ns, rfl⟩ := items_int h3
  have hlen : ns.length ≤ n := by
    unfold OpenLaw.pre at hc
    have h4 : (WTm.not (.lt (.lit (.int (n : Int))) (.len (.arg 0)))).holds [] { args := [.list (ns.map .int)] } = true := by
      have h4 := (holds_andW hc).1
      rw [hn] at h4
      exact h4
    have h5 := condW_of h4 (w_not (w_lt w_lit (w_len_list (w_arg rfl))))
    rw [List.length_map] at h5
    refine Nat.le_of_not_lt fun q => ?_
    have q' : (n : Int) < ((ns.length : Nat) : Int) := by omega
    first
      | (rw [decide_eq_true q'] at h5; exact absurd h5 (by decide))
      | (simp at h5; omega)
  cases hwl with
  | cons w1 w2 =>
    cases w2
    cases w1 with
    | list ho hall => exact ⟨_, _, ns, rfl, rfl, ho, ints_of_wellAll ns _ hall, hlen⟩

theorem post_true (l : OpenLaw) (args : List WData) : l.row.toRowW.claim.post args (.bool true) args = true :=
  postW_of (r := l.row.toRowW) (X := (true == true))
    (show WShape.has [] (.bool true) .bool = true by first | rfl | decide | simp [WShape.has, WShape.arms, WShape.armsAll])
    (show (WTm.eq .res (.lit (.bool true))).value [] { args := args, res := some (.bool true), after := args } = some (.bool (true == true)) from w_eq_bool (w_res rfl) w_lit) rfl

/-! ### the attachment: holds_open's last premise (the goal 'hc' behind k_head) from a wpAny of the law's body -/
/-- the same from a codeAny of the CALL (for a layer whose function contracts speak of calls) -/
theorem attach_call {l : OpenLaw} {n : Nat} {q : Program} {loose : List Str} {XP : (Str → Option Value) → Heap → Prop} {YP : World → Heap → Prop} {d : DefRec}
    (hn : l.most = some n) (hdf : d.params.defaults = [])
    (call : ∀ (w : World) (s₀ s₁ : Shared) (mg mb : Str → Option Value) (fa : Addr) (o : Obj) (pm cd doc : Value) (a : Addr) (vs : List Value) (ns : List Int),
      Ground q loose [] XP w s₀ mg mb s₁.heap → YP w s₁.heap →
      s₁.heap.get? fa = some o → o.data = .func (docDef d.name d.params d.body d.scope pm cd doc) → s₁.heap.CodeRec cd d.name → mg d.name = some (.ref fa) →
      s₁.heap.get? a = some { cls := .type "list", data := .seq vs.toArray } → IntsAre vs ns → ns.length ≤ n → s₁.gens = #[] →
      codeAny (model l.prog w) callerA (.call (.ref fa) ⟨[.ref a], []⟩) (fun r s' => r = .ok (.ret (.bool true)) ∧ OldK s₁.heap s'.heap ∧ s'.os = s₁.os ∧ AllBare s'.gens) s₁) :
    WalkO q loose XP YP l.row.toRowW d [] (fun f vs => PySem.call f vs) := by
  intro w s₀ s₁ mg mb G Y fa o pm cd doc dV kV ho hd hcd hD hmg hg args vals as hpre hlay hrd hwl hlo
  obtain rfl : dV = .none := Dflts.none hD hdf
  obtain rfl : kV = .none := Dflts.noKw hD
  obtain ⟨a, vs, ns, rfl, rfl, hobj, hints, hlen⟩ := script_of hn hpre hwl
  refine enter_call (codeAny_mono (call w s₀ s₁ mg mb fa o pm cd doc a vs ns G Y ho (fd_plain hd) hcd hmg hobj hints hlen hg) fun r s' hq => ?_)
  obtain ⟨rfl, h2, h3, h4⟩ := hq
  exact ⟨.inl ⟨.bool true, .bool true, [], rfl, fun _ => rfl, .bool true, post_true l _, fun _ => ⟨List.Pairwise.nil, fun _ hm => (nomatch hm)⟩⟩, h2, h3, h4⟩

/-! ### rules over ANY heap (no ledger) from facts about the written part K: the library's own take a ledger (News) for what they write -/
section
variable {prog : Program} {w : World} {A : Around} {E : Value → Shared → Prop} {s : Shared} {K : Frag}

/-! the whole heap as the ledger: makes every rule that writes through a ledger a rule over any heap -/
def noObjs (h : Heap) : Heap := { h with objs := #[] }
def ledger (h : Heap) (L d : Addr) : List (Addr × Obj) := (List.range h.objs.size).filterMap fun a => if a = L ∨ a = d then none else (h.get? a).map fun o => (a, o)
end
end Att

namespace L2
open PySem PySem.Spec PyProof.Rows

theorem vals_ints : ∀ {vs : List Value} {ns : List Int}, IntsAre vs ns → Vals (ns.map V.int) vs
  | _, _, .nil => .nil
  | _, _, .cons n t h => .cons ⟨t, rfl⟩ (vals_ints h)

/-- nothing is tracked but the script, known to the object (or it is an object of the module) -/
def Only (H : Hp) : Prop := ∀ b, H b = none ∨ ∃ o xs, H b = some (.frz o (.lst xs))

/-- THE HEAD: the law's promise, at the heap behind the top. F, the promise of the law's def, may use that base is part of the heap (so K.In base, base.Ns mainGlobals mg stand in Mod) -/
theorem law_call {P : Program} {w : World} {K : PySem.W.Frag} {mg mb : Str → Option Value} {CX : CXT} {k : Nat} {fa a : Addr} {fd : FuncData} {x : Str} {sp : Sp} {s₁ : Shared} {vs : List Value} {ns : List Int}
    (KX : K.In s₁.heap) (hns : s₁.heap.Ns mainGlobals mg) (hb : s₁.heap.Ns builtinsNs mb) (hbb : ∀ x : Str, x ≠ "__name__" → mb x = bootBuiltins x) (hlim : s₁.heap.NoLimit) (hg : s₁.gens = #[])
    (ha : s₁.heap.get? a = some { cls := .type "list", data := .seq vs.toArray }) (hi : IntsAre vs ns) (hl : ns.length ≤ sizeLine) (hr : Room k callerA)
    (F : ∀ base : Heap, K.In base → base.Ns mainGlobals mg → FnOk P w K mg base CX k fa fd [x] sp) (hbind : ∀ (s : Shared) (u : Value), BindsTo s fd ⟨[u], []⟩ [(x, u)])
    (hsp : ∀ H : Hp, Only H → SqL K H a (ns.map V.int) → sp [.ref a] H (fun v _ => v = .bl true) fun _ _ _ => False)
    (hCX : ∀ H e s', CX [] H s₁ (fun _ _ _ => False) e s' → False) :
    codeAny (model P w) callerA (.call (.ref fa) ⟨[.ref a], []⟩) (fun r s' => r = .ok (.ret (.bool true)) ∧ OldK s₁.heap s'.heap ∧ s'.os = s₁.os ∧ AllBare s'.gens) s₁ := by
  have rv := vals_ints hi
  have lenV := hi.length
  -- from an abstract heap in which nothing but the script may be tracked
  have core : ∀ H : Hp, Only H → SqL K H a (ns.map V.int) → HOk P w H s₁.heap → (∀ b, H b ≠ none → b = a) → (H a ≠ none → K.lookup a = none) →
      codeAny (model P w) callerA (.call (.ref fa) ⟨[.ref a], []⟩) (fun r s' => r = .ok (.ret (.bool true)) ∧ OldK s₁.heap s'.heap ∧ s'.os = s₁.os ∧ AllBare s'.gens) s₁ := by
    intro H hO hS hok hA hK
    have base_of : ∀ {b : Addr} {o : Obj}, s₁.heap.get? b = some o → H b = none → (hidT s₁.heap H).get? b = some o := fun e n => hidT_get e n
    have noA : ∀ {b : Addr} {o : Obj} {es : Array DictEntry} {ep : Nat}, s₁.heap.get? b = some o → o.data = .dict es ep → H b = none := fun {b o es ep} e d => by
      cases q : H b with
      | none => rfl
      | some u =>
        have e' : b = a := hA b (by rw [q]; simp)
        subst e'
        rw [ha] at e; cases e
        have d' : Data.seq vs.toArray _ = Data.dict es ep := d
        cases d'
    have nsK : ∀ {b : Addr} {m : Str → Option Value}, s₁.heap.Ns b m → (hidT s₁.heap H).Ns b m := fun {b m} ⟨o, es, ep, e, d, r⟩ => ⟨o, es, ep, base_of e (noA e d), d, r⟩
    have hKb : K.In (hidT s₁.heap H) := fun b o e => base_of (KX b o e) (by
      cases q : H b with
      | none => rfl
      | some u =>
        have e' : b = a := hA b (by rw [q]; simp)
        subst e'
        rw [hK (by rw [q]; simp)] at e; cases e)
    have hM : Mod K mg (hidT s₁.heap H) := ⟨hKb, nsK hns, ⟨mb, nsK hb, hbb⟩, let ⟨mc, h1, h2⟩ := hlim; ⟨mc, nsK h1, h2⟩⟩
    have e0 : Env0 P w K mg (hidT s₁.heap H) callerA [] s₁ H := ⟨rfl, hM, fun b o e => of_hidT e, Nat.le_of_eq (hidT_size _ _), trivial, fun b hb => absurd (show b ∈ ([] : List Addr) from hb) (by simp), hok, .of_eq hg⟩
    refine codeAny_mono ((F _ hKb (nsK hns)).run callerA [] s₁ H ⟨[.ref a], []⟩ [.ref a] [.ref a] _ _ hr e0 (hbind s₁ (.ref a)) (.cons rfl .nil) (hsp H hO hS)) fun r s' h => ?_
    cases r with
    | error e => exact (hCX H e s' h).elim
    | ok fl =>
      cases fl with
      | next => exact False.elim h
      | brk => exact False.elim h
      | cont => exact False.elim h
      | ret u =>
        obtain ⟨v, H', os, bare, un, hok', r', q⟩ := h
        have q' : v = .bl true := q
        subst q'
        obtain rfl : u = Value.bool true := r'
        refine ⟨rfl, OldK.of_keep fun b o e => ?_, os, bare⟩
        cases q : H b with
        | none => exact un.keep b o e q (by intro z; exact absurd (show b ∈ ([] : List Addr) from z) (by simp)) (by simp)
        | some u =>
          rcases hO b with z | ⟨ob, xs, z⟩
          · rw [q] at z; cases z
          · have z2 := un.frzs b ob _ z
            obtain ⟨e1, _⟩ := hok b _ z
            obtain ⟨e2, _⟩ := hok' b _ z2
            rw [e] at e1; cases e1
            exact e2
  cases hk : K.lookup a with
  | some o =>
    -- the script is one of the module's own objects
    have e := KX a o hk
    rw [ha] at e
    cases e
    refine core (fun _ => none) (fun _ => .inl rfl) (.inr ⟨_, vs.toArray, _, hk, rfl, rfl, rfl, by rw [List.size_toArray, lenV]; exact hl, by simpa using rv⟩) (fun b u z => by have z' : (none : Option HO) = some u := z; cases z') (fun b z => absurd rfl z) fun z => absurd rfl z
  | none =>
    refine core (fun b => if b = a then some (.frz { cls := .type "list", data := .seq vs.toArray } (.lst (ns.map V.int))) else none) (fun b => ?_) (.inl (.inr ⟨{ cls := .type "list", data := .seq vs.toArray }, if_pos rfl⟩)) (fun b u z => ?_) (fun b z => ?_) fun _ => hk
    · by_cases hb : b = a
      · exact .inr ⟨_, _, if_pos hb⟩
      · exact .inl (if_neg hb)
    · by_cases hb : b = a
      · have z' := (if_pos hb).symm.trans z
        cases z'
        subst hb
        exact ⟨ha, by rw [List.length_map]; exact hl, vs, _, rv, ha⟩
      · have z' := (if_neg hb).symm.trans z
        cases z'
    · by_cases hb : b = a
      · exact hb
      · exact absurd (if_neg hb) z
end L2

namespace L2
open PySem PySem.Spec PyProof.Rows

abbrev KOf {K : PySem.W.Frag} {h : Heap} (_ : K.In h) : PySem.W.Frag := K

/-- the goal that k_head leaves (case hc), from the law's promise. F gives the function object fd (K's own) once, then the promise over every base -/
theorem walk_of {l : PySem.W.OpenLaw} {n k : Nat} {q : Program} {loose : List Str} {XP : (Str → Option Value) → Heap → Prop} {YP : World → Heap → Prop} {d : DefRec} {K : Params → PySem.W.Frag} {CX : World → CXT} {sp : World → Sp} {x : Str}
    (hn : l.most = some n) (hn2 : n ≤ sizeLine) (hdf : d.params.defaults = []) (hr : Room k callerA)
    (hY : ∀ (w : World) (h : Heap), YP w h → (K w.params).In h)
    (F : ∀ (w : World) (mg : Str → Option Value) (fa : Addr) (h : Heap), (K w.params).In h → h.Ns mainGlobals mg → mg d.name = some (.ref fa) →
      ∃ fd : FuncData, (∀ (s : Shared) (u : Value), BindsTo s fd ⟨[u], []⟩ [(x, u)]) ∧
        ∀ base : Heap, (K w.params).In base → base.Ns mainGlobals mg → FnOk l.prog w (K w.params) mg base (CX w) k fa fd [x] (sp w))
    (hsp : ∀ (w : World) (H : Hp) (a : Addr) (ns : List Int), ns.length ≤ n → Only H → SqL (K w.params) H a (ns.map V.int) → sp w [.ref a] H (fun v _ => v = .bl true) fun _ _ _ => False)
    (hCX : ∀ (w : World) (H : Hp) (s : Shared) (e : Value) (s' : Shared), CX w [] H s (fun _ _ _ => False) e s' → False) :
    PySem.W.WalkO q loose XP YP l.row.toRowW d [] (fun f vs => PySem.call f vs) := by
  refine Att.attach_call hn hdf fun w s₀ s₁ mg mb fa o pm cd doc a vs ns G Y ho hd hcd hmg hobj hints hlen hg => ?_
  have KX := hY w _ Y
  obtain ⟨fd, hb, hF⟩ := F w mg fa _ KX G.T.g hmg
  exact law_call KX G.T.g G.T.b G.T.builtins G.T.nolimit hg hobj hints (Nat.le_trans hlen hn2) hr hF hb (fun H hO hS => hsp w H a ns hlen hO hS) fun H e s' => hCX w H s₁ e s'
end L2

/- THE LAST THEOREM (shape; LID, My.* are yours):
   My.Adr: a structure of the addresses that your layer names (classes, functions); My.Txt K t: a structure (Prop) of the equations over K;
   My.txt_mk : {K} {implicit addresses ..} (e1 : nsIn K mainGlobals "law" = some (some (.ref f))) (e2 : K.lookup f = some ⟨oc, od, .func (fnOf "law" "law" params body scope dV kV doc pm an cdv ct), sl⟩) (e3 : codeIn K cdv "law" = true) .. : ∃ t, My.Txt K t

set_option maxRecDepth 100000 in
set_option maxHeartbeats 0 in
theorem PySem.Challenge.cw_LID_holds : PySem.Challenge.rw_LID.Holds := by
  w_on; o_law; k_head; (case hw => w_witness2)
  k_fill
  refine L2.walk_of (l := PySem.Challenge.rw_LID) (n := 63) (k := 40) (x := "script") (CX := fun w => ..) (sp := fun _ => My.sp_law) rfl (by decide) rfl ⟨rfl, by decide, by decide⟩ (fun w h Y => PySem.W.kIn_of Y) ?F ?S ?C
  case F =>
    intro w mg fa h KX G hmg
    have T : ∃ t, My.Txt (L2.KOf KX) t := by
      dsimp only [L2.KOf]                          -- K must stand as «<heap const> w.params» for k_is
      refine' My.txt_mk ?e1 ?e2 ?e3 ..
      (case e1 => PySem.W.k_is)                    -- in the order: a name -> its address -> its object -> its parts
      (case e2 => PySem.W.k_is)
      ..
    obtain ⟨t, T⟩ := T
    have e0 := hmg.symm.trans (PySem.W.mg_of KX G T.law)
    cases e0                                       -- fa is the law's own address
    exact ⟨_, fun s u => .of_eq rfl, fun base kb nb => My.law_fn T kb nb⟩     -- if «.of_eq rfl» comes too early: refine' ⟨_, ?b, fun base kb nb => My.law_fn T kb nb⟩; exact fun s u => .of_eq rfl
  case S => exact fun w H a ns hl hO hS => ..
  case C => exact ..
(the tactic k_is has no namespace: write k_is) -/

/-! SHORT WORDS over the layer: a def of the text, its body, what a loop and a test want. -/
namespace L2
open PySem PySem.Spec PyProof.Rows

/-! ### the text by places -/
/-- the j-th statement of a class's body -/
def inClass (s : Stmt) (j : Nat) : Stmt := match s with
  | .ClassDef _ _ _ body _ _ _ _ _ _ _ => body.getD j (.Pass ⟨0, 0, 0, 0⟩)
  | _ => .Pass ⟨0, 0, 0, 0⟩
def defArgs (s : Stmt) : Arguments := match s with
  | .FunctionDef _ a _ _ _ _ _ _ _ _ => a
  | _ => { posonlyargs := [], args := [], vararg := none, kwonlyargs := [], kw_defaults := [], kwarg := none, defaults := [] }
def defBody (s : Stmt) : List Stmt := match s with
  | .FunctionDef _ _ b _ _ _ _ _ _ _ => b
  | _ => []
def defScope (s : Stmt) : Scope := match s with
  | .FunctionDef _ _ _ _ _ _ sc _ _ _ => sc
  | _ => { kind := .function, names := [], isGenerator := false, isCoroutine := false }

/-! ### no exception leaves a def -/
abbrev CX0 : CXT := fun _ _ _ _ _ _ => False
abbrev E0 : XK := fun _ _ _ => False
theorem pass0 {X : Cx} : Passes CX0 X E0 := fun _ _ _ _ _ _ _ h => h.elim

/-! ### a def (or method) of the text as it stands behind the top -/
structure Fun (K : PySem.W.Frag) (x qual : Str) (st : Stmt) (f : Addr) (fd : FuncData) : Prop where
  ex : ∃ (oc : Value) (od : Option Addr) (kV doc pm : Value) (an : Option Addr) (cdv ct : Value) (osl : Array (Option Value)),
    fd = PySem.W.fnOf x qual (defArgs st) (defBody st) (defScope st) .none kV doc pm an cdv ct ∧ K.lookup f = some ⟨oc, od, .func fd, osl⟩ ∧ PySem.W.codeIn K cdv qual = true
  kp : PySem.W.keepIn K (.ref f) = true
section
variable {P : Program} {w : World} {K : PySem.W.Frag} {mg : Str → Option Value} {base : Heap}
/-- THE RULE for a def: its body as a term of rules, and the reading of that term -/
theorem Fun.ok {x qual : Str} {st : Stmt} {f : Addr} {fd : FuncData} {N ps : List Str} {k : Nat} {sp : Sp} (F : Fun K x qual st f fd) (S : FnScope N ps (defScope st)) (len : ∀ vs H Q E, sp vs H Q E → vs.length = ps.length)
    (hbody : ∀ (cdv : Value) (A : Around) (outer : List Env) (s : Shared) (H : Hp) (vs : List V) (Q : VK) (E : XK), Room k (A.deeper (envOfC qual (defScope st) s.heap.objs.size f cdv)) → sp vs H Q E →
      ∃ t, PSs (cxOf CX0 P w K mg base N qual (defScope st) f cdv A outer s H E).nox (defBody st) t ∧ t { nx := fun _ H' => Q .non H', rt := Q } (start N vs) H) : FnOk P w K mg base CX0 (k + 1) f fd ps sp := by
  obtain ⟨oc, od, kV, doc, pm, an, cdv, ct, osl, rfl, lk, hcd⟩ := F.ex
  refine fn_of lk hcd S len fun A outer s H vs Q E hr hsp => ?_
  obtain ⟨t, h, q⟩ := hbody cdv A outer s H vs Q E hr hsp
  exact ⟨t, h.nox, q⟩
/-- how its arguments bind (no defaults): h is «fun _ _ _ _ _ _ us hl => match us, hl with | [_, _], _ => rfl», one _ a parameter -/
theorem Fun.binds {x qual : Str} {st : Stmt} {f : Addr} {fd : FuncData} {ps : List Str} (F : Fun K x qual st f fd)
    (h : ∀ (kV doc pm : Value) (an : Option Addr) (cdv ct : Value) (us : List Value), us.length = ps.length → bindArgs (PySem.W.fnOf x qual (defArgs st) (defBody st) (defScope st) .none kV doc pm an cdv ct) ⟨us, []⟩ = pure (ps.zip us)) : Binds K fd ps [] := by
  obtain ⟨oc, od, kV, doc, pm, an, cdv, ct, osl, rfl, lk, hcd⟩ := F.ex
  exact .all (h kV doc pm an cdv ct)
theorem fun_mk {x qual : Str} {st : Stmt} {f : Addr} {oc : Value} {od an : Option Addr} {osl : Array (Option Value)} {kV doc pm cdv ct : Value} (l : K.lookup f = some ⟨oc, od, .func (PySem.W.fnOf x qual (defArgs st) (defBody st) (defScope st) .none kV doc pm an cdv ct), osl⟩)
    (c : PySem.W.codeIn K cdv qual = true) (k : PySem.W.keepIn K (.ref f) = true) : Fun K x qual st f (PySem.W.fnOf x qual (defArgs st) (defBody st) (defScope st) .none kV doc pm an cdv ct) := ⟨⟨oc, od, kV, doc, pm, an, cdv, ct, osl, rfl, l, c⟩, k⟩
end
/-! ### expressions in short: the name that stands in the i-th slot -/
section
variable {X : Cx}
theorem pv (i : Nat) {x : Str} {pos : Pos} (hN : X.N[i]? = some x := by rfl) (hv : Vis X.env.scope x := by first | exact Or.inl rfl | exact Or.inr (Or.inl rfl) | exact Or.inr (Or.inr rfl)) (hd : (x == ("__debug__" : Str)) = false := by decide)
    (hcd : (x == ("__classdict__" : Str)) = false := by decide) : PE X (.Name x pos) (tVar i) := pe_var hN hv hd hcd
end

/-! ### tests -/
theorem iteF {A B : Prop} (h : B) : if false = true then A else B := by
  rw [if_neg Bool.false_ne_true]
  exact h
theorem iteT {A B : Prop} (h : A) : if true = true then A else B := by
  rw [if_pos rfl]
  exact h
/-! ### heaps -/
/-- all that was tracked is as it was -/
def Same (H H' : Hp) : Prop := ∀ b o, H b = some o → H' b = some o
theorem Same.refl (H : Hp) : Same H H := fun _ _ h => h
theorem Same.trans {H H1 H2 : Hp} (a : Same H H1) (b : Same H1 H2) : Same H H2 := fun c o h => b c o (a c o h)
theorem Same.free {H H' : Hp} (e : Same H H') {l : Addr} (h : H' l = Option.none) : H l = Option.none := by
  cases q : H l with
  | none => rfl
  | some o =>
    rw [e l o q] at h
    cases h
theorem Same.seq {K : PySem.W.Frag} {H H' : Hp} {a : Addr} {xs : List V} (e : Same H H') (h : SqL K H a xs) : SqL K H' a xs := by
  rcases h with (h | ⟨o, h⟩) | h
  · exact .inl (.inl (e _ _ h))
  · exact .inl (.inr ⟨o, e _ _ h⟩)
  · exact .inr h

end L2
end
section
set_option Elab.async false
set_option linter.all false
set_option maxRecDepth 100000
namespace L2
open PySem PySem.Spec PyProof.Rows

/-! ### lists of pairs as tables -/
section
variable {κ : Type} [DecidableEq κ]
def valV (kvs : List (κ × V)) (k : κ) : Option V := (kvs.find? fun kv => decide (kv.1 = k)).map (·.2)
/-- in its place, or at the end -/
def putK (kvs : List (κ × V)) (k : κ) (v : V) : List (κ × V) :=
  if (kvs.any fun kv => decide (kv.1 = k)) = true then kvs.map (fun kv => if kv.1 = k then (kv.1, v) else kv) else kvs ++ [(k, v)]
def dropK (kvs : List (κ × V)) (k : κ) : List (κ × V) := kvs.filter fun kv => decide (kv.1 ≠ k)

theorem valV_pos {p : κ × V} {r : List (κ × V)} {k : κ} (e : p.1 = k) : valV (p :: r) k = some p.2 := by simp [valV, List.find?_cons, e]
theorem valV_neg {p : κ × V} {r : List (κ × V)} {k : κ} (e : ¬ p.1 = k) : valV (p :: r) k = valV r k := by simp [valV, List.find?_cons, e]
theorem RelO.getD {o : Option V} {u : Option Value} {d : V} {d' : Value} (r : RelO o u) (rd : RelV d d') : RelV (o.getD d) (u.getD d') := by
  cases o with
  | none => cases u with
    | none => exact rd
    | some _ => exact (show False from r).elim
  | some _ => cases u with
    | none => exact (show False from r).elim
    | some _ => exact r

/-- raw tables of the same keys -/
theorem KV.val {kvs : List (κ × V)} {vs : List (κ × Value)} (r : KV kvs vs) (k : κ) : RelO (valV kvs k) (valueAt vs k) := by
  unfold KV at r
  induction r with
  | nil => exact True.intro
  | @cons p q ps qs h t ih =>
    obtain ⟨h1, h2⟩ := h
    by_cases e : p.1 = k
    · have e' : q.1 = k := h1.symm.trans e
      have b : valueAt (q :: qs) k = some q.2 := by simp [valueAt, List.find?_cons, e']
      rw [valV_pos e, b]; exact h2
    · have e' : ¬ q.1 = k := fun z => e (h1.trans z)
      have b : valueAt (q :: qs) k = valueAt qs k := by simp [valueAt, List.find?_cons, e']
      rw [valV_neg e, b]; exact ih
theorem KV.any {kvs : List (κ × V)} {vs : List (κ × Value)} (r : KV kvs vs) (k : κ) : (kvs.any fun kv => decide (kv.1 = k)) = vs.any fun kv => decide (kv.1 = k) := by
  unfold KV at r
  induction r with
  | nil => rfl
  | cons h t ih => rw [List.any_cons, List.any_cons, ih, h.1]
theorem KV.drop {kvs : List (κ × V)} {vs : List (κ × Value)} (r : KV kvs vs) (k : κ) : KV (dropK kvs k) (without vs k) := by
  unfold KV at r ⊢
  unfold dropK without
  induction r with
  | nil => exact .nil
  | @cons p q ps qs h t ih =>
    obtain ⟨h1, h2⟩ := h
    rw [List.filter_cons, List.filter_cons]
    by_cases e : p.1 = k
    · have a : ¬ decide (p.1 ≠ k) = true := by simp [e]
      have b : ¬ decide (q.1 ≠ k) = true := by simp [h1.symm.trans e]
      rw [if_neg a, if_neg b]; exact ih
    · have e' : ¬ q.1 = k := fun z => e (h1.trans z)
      have a : decide (p.1 ≠ k) = true := by simp [e]
      have b : decide (q.1 ≠ k) = true := by simp [e']
      rw [if_pos a, if_pos b]; exact .cons ⟨h1, h2⟩ ih
theorem KV.keys {kvs : List (κ × V)} {vs : List (κ × Value)} (r : KV kvs vs) : kvs.map (·.1) = vs.map (·.1) := by
  unfold KV at r
  induction r with
  | nil => rfl
  | cons h t ih => rw [List.map_cons, List.map_cons, ih, h.1]
theorem KV.length {kvs : List (κ × V)} {vs : List (κ × Value)} (r : KV kvs vs) : kvs.length = vs.length := Paired.length r
end


/-! ### a tracked dict, its keys ints and texts or tuples of these -/
/-- raw entries of a dict with tuple keys -/
abbrev KT (H : Hp) : List (List Key × V) → List (List Key × Addr × Value) → Prop := Paired fun p q => p.1 = q.1 ∧ H q.2.1 = some (.tup (p.1.map kV)) ∧ RelV p.2 q.2.2
theorem KT.val {H : Hp} {kvs : List (List Key × V)} {xs : List (List Key × Addr × Value)} (r : KT H kvs xs) (k : List Key) : RelO (valV kvs k) ((atKey xs k).map (·.2)) := by
  induction r with
  | nil => exact True.intro
  | @cons p q ps qs h t ih =>
    obtain ⟨h1, _, h2⟩ := h
    by_cases e : p.1 = k
    · have e' : q.1 = k := h1.symm.trans e
      have b : atKey (q :: qs) k = some q.2 := by simp [atKey, List.find?_cons, e']
      rw [valV_pos e, b]; exact h2
    · have e' : ¬ q.1 = k := fun z => e (h1.trans z)
      have b : atKey (q :: qs) k = atKey qs k := by simp [atKey, List.find?_cons, e']
      rw [valV_neg e, b]; exact ih
theorem KT.keeps {H H' : Hp} {kvs : List (List Key × V)} {xs : List (List Key × Addr × Value)} (r : KT H kvs xs) (ht : ∀ b ys, H b = some (.tup ys) → H' b = some (.tup ys)) : KT H' kvs xs :=
  Paired.mapP r fun _ _ z => ⟨z.1, ht _ _ z.2.1, z.2.2⟩

section
variable {P : Program} {w : World} {H : Hp} {h : Heap} {a : Addr}
end

/-- what the dict at a holds at the key y -/
def DGet (H : Hp) (a : Addr) (y : V) (r : Option V) : Prop :=
  (∃ kvs k, Rd H a (.dK kvs) ∧ y = kV k ∧ r = valV kvs k) ∨ ∃ kvs k b, Rd H a (.dT kvs) ∧ y = .ref b ∧ H b = some (.tup (k.map kV)) ∧ r = valV kvs k
/-- the heap behind a[y] = v -/
def DPut (H : Hp) (a : Addr) (y v : V) (H' : Hp) : Prop :=
  (∃ kvs k, H a = some (.dK kvs) ∧ y = kV k ∧ kvs.length < sizeLine ∧ H' = upd H a (.dK (putK kvs k v))) ∨
  ∃ kvs k b, H a = some (.dT kvs) ∧ y = .ref b ∧ H b = some (.tup (k.map kV)) ∧ kvs.length < sizeLine ∧ H' = upd H a (.dT (putK kvs k v))
theorem DGet.k {H : Hp} {a : Addr} {kvs : List (Key × V)} {k : Key} (e : H a = some (.dK kvs)) : DGet H a (kV k) (valV kvs k) := .inl ⟨kvs, k, .inl e, rfl, rfl⟩
theorem DGet.t {H : Hp} {a b : Addr} {kvs : List (List Key × V)} {k : List Key} (e : H a = some (.dT kvs)) (eb : H b = some (.tup (k.map kV))) : DGet H a (.ref b) (valV kvs k) := .inr ⟨kvs, k, b, .inl e, rfl, eb, rfl⟩
theorem DPut.k {H : Hp} {a : Addr} {kvs : List (Key × V)} {k : Key} {v : V} (e : H a = some (.dK kvs)) (hl : kvs.length < sizeLine) : DPut H a (kV k) v (upd H a (.dK (putK kvs k v))) := .inl ⟨kvs, k, e, rfl, hl, rfl⟩
theorem DPut.t {H : Hp} {a b : Addr} {kvs : List (List Key × V)} {k : List Key} {v : V} (e : H a = some (.dT kvs)) (eb : H b = some (.tup (k.map kV))) (hl : kvs.length < sizeLine) :
    DPut H a (.ref b) v (upd H a (.dT (putK kvs k v))) := .inr ⟨kvs, k, b, e, rfl, eb, hl, rfl⟩


section
variable {X : Cx} {pins : List (Addr × Obj)} {σ : St} {H : Hp} {s : Shared} {a : Addr} {y v : V} {u r : Value} {o : Option V} {A : Around} {E : Value → Shared → Prop}

theorem Inv.big (I : Inv X pins σ H s) : sysModules < s.heap.objs.size := by
  have h : mainGlobals < s.heap.objs.size := (I.mod.glob.keeps I.bk).lt
  exact Nat.lt_trans (by decide) h

end

section
variable {X : Cx} {pins : List (Addr × Obj)} {σ : St} {H : Hp} {s : Shared} {a : Addr} {kvs : List (Key × V)} {k : Key} {u : Value} {A : Around} {E : Value → Shared → Prop}
end


/-! ### readings and rules -/
/-- the element of a subscription, not a slice -/
def NoSl (i : Expr) : Prop := ∀ ov iv, subscripted i false ov iv = operate [ov, iv] (getItem ov iv)
/-- d[y] -/
def tDGet (td ty : TE) : TE := fun σ H Q => td σ H fun x H1 => ty σ H1 fun y H2 => ∃ a v, x = .ref a ∧ DGet H2 a y (some v) ∧ Q v H2
/-- y in d, y not in d -/
def tDIn (ty td : TE) : TE := fun σ H Q => ty σ H fun y H1 => td σ H1 fun x H2 => ∃ a o, x = .ref a ∧ DGet H2 a y o ∧ Q (.bl o.isSome) H2
def tDNotIn (ty td : TE) : TE := fun σ H Q => ty σ H fun y H1 => td σ H1 fun x H2 => ∃ a o, x = .ref a ∧ DGet H2 a y o ∧ Q (.bl (!o.isSome)) H2
/-- d[y] = v -/
def sDPut (td ty tv : TE) : TS := fun D σ H => tv σ H fun v H1 => td σ H1 fun x H2 => ty σ H2 fun y H3 => ∃ a H4, x = .ref a ∧ DPut H3 a y v H4 ∧ D.nx σ H4
/-- d[y] op= v -/
def sDAug (td ty tv : TE) (rd : V → V → Hp → VK → Prop) : TS := fun D σ H => td σ H fun x H1 => ty σ H1 fun y H2 => ∃ a v, x = .ref a ∧ DGet H2 a y (some v) ∧
  tv σ H2 fun y2 H3 => rd v y2 H3 fun z H4 => ∃ H5, DPut H4 a y z H5 ∧ D.nx σ H5
/-- del d[y] -/
def sDDel (td ty : TE) : TS := fun D σ H => td σ H fun x H1 => ty σ H1 fun y H2 => ∃ a kvs k, x = .ref a ∧ H2 a = some (.dK kvs) ∧ y = kV k ∧ (valV kvs k).isSome = true ∧ D.nx σ (upd H2 a (.dK (dropK kvs k)))

section
variable {X : Cx} {o i e value : Expr} {pos pos' tpos : Pos} {td ty tv : TE}
end


/-! ### displays -/
/-- {}, to be a dict of the kind that is wanted -/
def tDNewK : TE := fun _ H Q => ∀ p, H p = none → Q (.ref p) (upd H p (.dK []))
def tDNewT : TE := fun _ H Q => ∀ p, H p = none → Q (.ref p) (upd H p (.dT []))
section
variable {X : Cx} {pos : Pos}
end

/-- the pairs of a display, from the left -/
def tPairs : List (TE × TE) → St → Hp → (List (V × V) → Hp → Prop) → Prop
  | [], _, H, Q => Q [] H
  | (tk, tv) :: r, σ, H, Q => tk σ H fun x H1 => tv σ H1 fun y H2 => tPairs r σ H2 fun ps H3 => Q ((x, y) :: ps) H3
abbrev VV : List (V × V) → List (Value × Value) → Prop := Paired fun p q => RelV p.1 q.1 ∧ RelV p.2 q.2
def PPs (X : Cx) (pos : Pos) (keys : List (Option Expr)) (values : List Expr) (trs : List (TE × TE)) : Prop :=
  ∀ (pins : List (Addr × Obj)) (s : Shared) (σ : St) (H : Hp) (Q : List (V × V) → Hp → Prop), Inv X pins σ H s → tPairs trs σ H Q →
    wpAny (model X.prog X.w) X.A (evalPairs (pairTrees keys values X.env pos)) (fun vs s' => ∃ ps H', Inv X pins σ H' s' ∧ VV ps vs ∧ Q ps H') X.xe s
def mergeK (kvs more : List (Key × V)) : List (Key × V) := more.foldl (fun acc kv => putK acc kv.1 kv.2) kvs
/-- {k: v, ..} with keys ints and texts; the new dict stands empty while the pairs are made -/
def tDisp (trs : List (TE × TE)) : TE := fun σ H Q => ∀ p, H p = none → tPairs trs σ (upd H p (.dK [])) fun ps H2 => H2 p = some (.dK []) ∧ ∃ kvs : List (Key × V), ps = kvs.map (fun kv => (kV kv.1, kv.2)) ∧ kvs.length ≤ 15 ∧ Q (.ref p) (upd H2 p (.dK (mergeK [] kvs)))
/-! ### methods -/
/-- a method call o.m(e) of a built-in, with one argument: what must be seen of the text -/
structure M1 (X : Cx) (o : Expr) (m : Str) (apos : Pos) (e : Expr) (cpos : Pos) : Prop where
  base : attributeBase o m X.env (eval o X.env) = eval o X.env
  few : ((backTo cpos (starEach [e] X.env)).all (fun x => !x.1) && (backToKw cpos (keywordEach [] X.env)).all (fun x => x.1.isSome)
    && decide (([e] : List Expr).length + ([] : List Keyword).length + (if ([] : List Keyword).isEmpty then 0 else 1) < 30)) = true
  line : (apos.endLine == cpos.line) = true
  trees : backTo cpos (starEach [e] X.env) = [(false, eval e X.env)]
structure M2 (X : Cx) (o : Expr) (m : Str) (apos : Pos) (e f : Expr) (cpos : Pos) : Prop where
  base : attributeBase o m X.env (eval o X.env) = eval o X.env
  few : ((backTo cpos (starEach [e, f] X.env)).all (fun x => !x.1) && (backToKw cpos (keywordEach [] X.env)).all (fun x => x.1.isSome)
    && decide (([e, f] : List Expr).length + ([] : List Keyword).length + (if ([] : List Keyword).isEmpty then 0 else 1) < 30)) = true
  line : (apos.endLine == cpos.line) = true
  trees : backTo cpos (starEach [e, f] X.env) = [(false, eval e X.env), (false, eval f X.env)]

/-- a is a dict, whatever its keys -/
def IsD (H : Hp) (a : Addr) : Prop := (∃ kvs, Rd H a (.dK kvs)) ∨ ∃ kvs, Rd H a (.dT kvs)
section
variable {X : Cx} {pins : List (Addr × Obj)} {σ : St} {H : Hp} {s : Shared} {a : Addr} {y d : V} {u r : Value} {o : Option V} {A : Around} {E : Value → Shared → Prop}
end

def tDGet1 (td ty : TE) : TE := fun σ H Q => td σ H fun x H1 => ∃ a, x = .ref a ∧ IsD H1 a ∧ ty σ H1 fun y H2 => ∃ o, DGet H2 a y o ∧ Q (o.getD .non) H2
def tDGet2 (td ty tx : TE) : TE := fun σ H Q => td σ H fun x H1 => ∃ a, x = .ref a ∧ IsD H1 a ∧ ty σ H1 fun y H2 => tx σ H2 fun z H3 => ∃ o, DGet H3 a y o ∧ Q (o.getD z) H3
/-- d.pop(k): there; d.pop(k, x): there or not -/
def tDPop1 (td ty : TE) : TE := fun σ H Q => td σ H fun x H1 => ∃ a, x = .ref a ∧ IsD H1 a ∧ ty σ H1 fun y H2 => ∃ kvs k v, H2 a = some (.dK kvs) ∧ y = kV k ∧ valV kvs k = some v ∧ Q v (upd H2 a (.dK (dropK kvs k)))
def tDPop2 (td ty tx : TE) : TE := fun σ H Q => td σ H fun x H1 => ∃ a, x = .ref a ∧ IsD H1 a ∧ ty σ H1 fun y H2 => tx σ H2 fun z H3 => ∃ kvs k, H3 a = some (.dK kvs) ∧ y = kV k ∧
  (∀ v, valV kvs k = some v → Q v (upd H3 a (.dK (dropK kvs k)))) ∧ (valV kvs k = none → Q z H3)
section
variable {X : Cx} {o e f : Expr} {apos cpos : Pos} {td ty tx : TE}
end

/-! ### dict(d): a copy -/
section
variable {X : Cx} {pins : List (Addr × Obj)} {σ : St} {H : Hp} {s : Shared} {a : Addr} {kvs : List (Key × V)} {A : Around} {E : Value → Shared → Prop}
end


section
variable {X : Cx} {pins : List (Addr × Obj)} {σ : St} {H : Hp} {s : Shared} {a : Addr} {y : V} {u : Value} {A : Around} {E : Value → Shared → Prop}
end
end L2
end
section
set_option linter.all false
namespace D
open PySem

/-- a Python value as a tree -/
abbrev T := PyData
/-- small enough to be compared -/
def okT (a : T) : Bool := a.canLay0 && decide (a.depth ≤ 60)
def okL (as : List T) : Bool := PyData.canLayAll0 as && decide (PyData.depthAll as ≤ 60)

abbrev Key := Sum Int Str
/-- what a local name holds: a value that nobody changes, or a list, a dict of this frame's own -/
inductive Sl where
  | imm (t : T) | own (ts : List T) | dic (kvs : List (Key × T))
abbrev Ev := List (Option Sl)
inductive Out where
  | nx (ε : Ev) | rt (t : T) | bk (ε : Ev) | ct (ε : Ev)
abbrev Fe := Ev → Option T
abbrev Ft := Ev → Option Bool
abbrev Fs := Ev → Option Out
abbrev Fi := Ev → Option (List T)
abbrev Fg := T → Ev → Option Ev

def big : Nat := 16777216

/-! ### operations on values -/
def oAdd : T → T → Option T
  | .int i, .int j => some (.int (i + j))
  | .str x, .str y => if x.length + y.length ≤ big then some (.str (x ++ y)) else none
  | .tuple xs, .tuple ys => if xs.length + ys.length ≤ big then some (.tuple (xs ++ ys)) else none
  | .list xs, .list ys => if xs.length + ys.length ≤ big then some (.list (xs ++ ys)) else none
  | _, _ => none
def oSub : T → T → Option T
  | .int i, .int j => some (.int (i - j))
  | _, _ => none
def mulOk (i j : Int) : Bool := (decide (-(2 ^ 64) < i) && decide (i < 2 ^ 64)) || (decide (-(2 ^ 64) < j) && decide (j < 2 ^ 64))
def oMul : T → T → Option T
  | .int i, .int j => if mulOk i j then some (.int (i * j)) else none
  | _, _ => none
def oDiv : T → T → Option T
  | .int i, .int j => if 0 < j ∧ j < 1073741824 then some (.int (i / j)) else none
  | _, _ => none
def oMod : T → T → Option T
  | .int i, .int j => if 0 < j then some (.int (i % j)) else none
  | _, _ => none
def oNeg : T → Option T
  | .int i => some (.int (-i))
  | _ => none
def ixOf (n : Nat) (i : Int) : Option Nat := if 0 ≤ i then (if i < n then some i.toNat else none) else if -(n : Int) ≤ i then some (i + n).toNat else none
def atZ {α : Type} (xs : List α) (i : Int) : Option α := (ixOf xs.length i).bind fun j => xs[j]?
def oIx : T → T → Option T
  | .tuple xs, .int i => atZ xs i
  | .list xs, .int i => atZ xs i
  | .str x, .int i => if x.length ≤ big then (atZ x.cps.toList i).map fun c => .str ⟨#[c]⟩ else none
  | _, _ => none
def oEq (a b : T) : Option T := if okT a && okT b then some (.bool (PyData.eqv a b)) else none
def oNe (a b : T) : Option T := if okT a && okT b then some (.bool (!PyData.eqv a b)) else none
def oIsN (a : T) : Option T := some (.bool (match a with | .none => true | _ => false))
def oNotN (a : T) : Option T := some (.bool (match a with | .none => false | _ => true))
def strLt (x y : Str) : Bool := decide (x.cps.toList < y.cps.toList)
def oLt : T → T → Option T
  | .int i, .int j => some (.bool (decide (i < j)))
  | .str x, .str y => some (.bool (strLt x y))
  | _, _ => none
def oLe : T → T → Option T
  | .int i, .int j => some (.bool (decide (i ≤ j)))
  | .str x, .str y => some (.bool (!strLt y x))
  | _, _ => none
def oGt : T → T → Option T
  | .int i, .int j => some (.bool (decide (j < i)))
  | .str x, .str y => some (.bool (strLt y x))
  | _, _ => none
def oGe : T → T → Option T
  | .int i, .int j => some (.bool (decide (j ≤ i)))
  | .str x, .str y => some (.bool (!strLt x y))
  | _, _ => none
def hasT (x : T) (ts : List T) : Bool := ts.any fun y => PyData.eqv y x
def oIn (neg : Bool) : T → T → Option T
  | x, .tuple ys => if okT x && okL ys then some (.bool (if neg then !hasT x ys else hasT x ys)) else none
  | x, .list ys => if okT x && okL ys then some (.bool (if neg then !hasT x ys else hasT x ys)) else none
  | _, _ => none
def oLen : List T → Option T
  | [.tuple xs] => some (.int xs.length)
  | [.list xs] => some (.int xs.length)
  | [.str x] => if x.length ≤ big then some (.int x.length) else none
  | _ => none
def oMin : List T → Option T
  | [.int i, .int j] => some (.int (if j < i then j else i))
  | _ => none
def oMax : List T → Option T
  | [.int i, .int j] => some (.int (if j > i then j else i))
  | _ => none
def oTuple : List T → Option T
  | [.tuple xs] => some (.tuple xs)
  | [.list xs] => some (.tuple xs)
  | _ => none
def oList : List T → Option T
  | [.tuple xs] => some (.list xs)
  | [.list xs] => some (.list xs)
  | _ => none
def oInt : List T → Option T
  | [.int i] => some (.int i)
  | [.bool b] => some (.int (if b then 1 else 0))
  | _ => none
def sIx (n d : Nat) : Option Int → Nat
  | none => d
  | some v => (if v < 0 then max (v + n) 0 else min v n).toNat
def cutZ {α : Type} (xs : List α) (lo hi : Option Int) : List α := (xs.drop (sIx xs.length 0 lo)).take (sIx xs.length xs.length hi - sIx xs.length 0 lo)
def oSl (t : T) (lo hi : Option Int) : Option T := match t with
  | .tuple xs => some (.tuple (cutZ xs lo hi))
  | .list xs => some (.list (cutZ xs lo hi))
  | _ => none
def oAll : List T → Option T
  | [.list xs] => if xs.all (fun x => match x with | .bool _ => true | _ => false) then some (.bool (xs.all fun x => match x with | .bool b => b | _ => false)) else none
  | _ => none
def oSum : List T → Option T
  | [.tuple xs] => (xs.foldl (fun (o : Option Int) x => o.bind fun a => match x with | .int i => some (a + i) | _ => none) (some 0)).map .int
  | [.list xs] => (xs.foldl (fun (o : Option Int) x => o.bind fun a => match x with | .int i => some (a + i) | _ => none) (some 0)).map .int
  | _ => none

def oRev : T → Option T
  | .tuple xs => some (.tuple xs.reverse)
  | .list xs => some (.list xs.reverse)
  | _ => none
/-- the ints of a list, the texts of a list -/
def intsOf : List T → Option (List Int)
  | [] => some []
  | .int i :: ts => (intsOf ts).map fun r => i :: r
  | _ :: _ => none
def strsOf : List T → Option (List Str)
  | [] => some []
  | .str x :: ts => (strsOf ts).map fun r => x :: r
  | _ :: _ => none
def insI (x : Int) : List Int → List Int
  | [] => [x]
  | y :: ys => if x ≤ y then x :: y :: ys else y :: insI x ys
def sortI : List Int → List Int
  | [] => []
  | x :: xs => insI x (sortI xs)
def insS (x : Str) : List Str → List Str
  | [] => [x]
  | y :: ys => if !strLt y x then x :: y :: ys else y :: insS x ys
def sortS : List Str → List Str
  | [] => []
  | x :: xs => insS x (sortS xs)
def dedup {α : Type} [DecidableEq α] : List α → List α
  | [] => []
  | x :: xs => x :: (dedup xs).filter fun y => decide (y ≠ x)
/-- sorted(set(..)) of ints or of texts -/
def oSortedSet : List T → Option T
  | [.list xs] | [.tuple xs] => if xs.length < 64 then
      match intsOf xs with
      | some ns => some (.list ((sortI (dedup ns)).map .int))
      | none => (strsOf xs).map fun ss => .list ((sortS (dedup ss)).map .str)
    else none
  | _ => none
def oSorted : List T → Option T
  | [.list xs] => if xs.length < 64 then
      match intsOf xs with
      | some ns => some (.list ((sortI ns).map .int))
      | none => (strsOf xs).map fun ss => .list ((sortS ss).map .str)
    else none
  | _ => none
def oLenSet : List T → Option T
  | [.list xs] => if xs.length < 64 then (intsOf xs).map fun ns => .int (dedup ns).length else none
  | _ => none
def keyOf : T → Option Key
  | .int i => some (.inl i)
  | .str x => some (.inr x)
  | _ => none
def putD (kvs : List (Key × T)) (k : Key) (v : T) : List (Key × T) := if kvs.any (fun p => decide (p.1 = k)) then kvs.map fun p => if p.1 = k then (k, v) else p else kvs ++ [(k, v)]
def getD (kvs : List (Key × T)) (k : Key) : Option T := (kvs.find? fun p => decide (p.1 = k)).map (·.2)
def hasD (kvs : List (Key × T)) (k : Key) : Bool := kvs.any fun p => decide (p.1 = k)
def keyT : Key → T
  | .inl i => .int i
  | .inr x => .str x

/-! ### expressions -/
def dic? (i : Nat) (ε : Ev) : Option (List (Key × T)) := match ε[i]? with
  | some (some (.dic kvs)) => some kvs
  | _ => none
def dIn (neg : Bool) (f : Fe) (i : Nat) : Fe := fun ε => (f ε).bind fun t => (keyOf t).bind fun k => (dic? i ε).map fun kvs => .bool (if neg then !hasD kvs k else hasD kvs k)
def dGet (i : Nat) (f : Fe) : Fe := fun ε => (f ε).bind fun t => (keyOf t).bind fun k => (dic? i ε).bind fun kvs => getD kvs k
def dSorted (i : Nat) : Fe := fun ε => (dic? i ε).bind fun kvs => if kvs.length < 64 then (intsOf (kvs.map fun p => keyT p.1)).map fun ns => .list ((sortI ns).map .int) else none
def cst (t : T) : Fe := fun _ => some t
/-- a name, read: a value or an own list -/
def nm (i : Nat) : Fe := fun ε => match ε[i]? with
  | some (some (.imm t)) => some t
  | some (some (.own ts)) => some (.list ts)
  | _ => none
/-- a name that holds a value that nobody changes -/
def nmV (i : Nat) : Fe := fun ε => match ε[i]? with
  | some (some (.imm t)) => some t
  | _ => none
def op1 (o : T → Option T) (f : Fe) : Fe := fun ε => (f ε).bind o
def op2 (o : T → T → Option T) (f g : Fe) : Fe := fun ε => (f ε).bind fun x => (g ε).bind fun y => o x y
def args : List Fe → Ev → Option (List T)
  | [], _ => some []
  | f :: fs, ε => (f ε).bind fun t => (args fs ε).map fun ts => t :: ts
def opN (o : List T → Option T) (fs : List Fe) : Fe := fun ε => (args fs ε).bind o
def mkTup (fs : List Fe) : Fe := fun ε => (args fs ε).bind fun ts => if ts.length ≤ big then some (.tuple ts) else none
def mkLst (fs : List Fe) : Fe := fun ε => (args fs ε).bind fun ts => if ts.length ≤ big then some (.list ts) else none
def opt (f : Fe) : Ev → Option (Option Int) := fun ε => (f ε).bind fun t => match t with | .int i => some (some i) | _ => none
def optN : Ev → Option (Option Int) := fun _ => some none
def slice (f : Fe) (lo hi : Ev → Option (Option Int)) : Fe := fun ε => (f ε).bind fun t => (lo ε).bind fun l => (hi ε).bind fun h => oSl t l h
def andV (f g : Fe) : Fe := fun ε => (f ε).bind fun t => match t with | .bool true => g ε | .bool false => some (.bool false) | _ => none
def orV (f g : Fe) : Fe := fun ε => (f ε).bind fun t => match t with | .bool false => g ε | .bool true => some (.bool true) | _ => none
def notV (f : Fe) : Fe := fun ε => (f ε).bind fun t => match t with | .bool b => some (.bool (!b)) | _ => none
def chain (o p : T → T → Option T) (f g h : Fe) : Fe := fun ε => (f ε).bind fun x => (g ε).bind fun y => (o x y).bind fun r => match r with
  | .bool true => (h ε).bind fun z => p y z
  | .bool false => some (.bool false)
  | _ => none

/-! ### tests -/
def tstB (f : Fe) : Ft := fun ε => (f ε).bind fun t => match t with | .bool b => some b | _ => none
def tstL (f : Fe) : Ft := fun ε => (f ε).bind fun t => match t with | .list ts => some (!ts.isEmpty) | .tuple ts => some (!ts.isEmpty) | _ => none
def andT (f g : Ft) : Ft := fun ε => (f ε).bind fun b => if b then g ε else some false
def orT (f g : Ft) : Ft := fun ε => (f ε).bind fun b => if b then some true else g ε
def notT (f : Ft) : Ft := fun ε => (f ε).map fun b => !b
def ifE (c : Ft) (f g : Fe) : Fe := fun ε => (c ε).bind fun b => if b then f ε else g ε

def cstT (b : Bool) : Ft := fun _ => some b
def ofT (c : Ft) : Fe := fun ε => (c ε).map .bool

/-! ### what is walked -/
def itSeq (f : Fe) : Fi := fun ε => (f ε).bind fun t => match t with | .tuple ts => some ts | .list ts => some ts | _ => none
def itTup (f : Fe) : Fi := fun ε => (f ε).bind fun t => match t with | .tuple ts => some ts | _ => none
def rng (lo hi : Int) : List T := (List.range (hi - lo).toNat).map fun (k : Nat) => .int (lo + (k : Int))
def small62 (i : Int) : Bool := decide (-(2 ^ 62) ≤ i) && decide (i < 2 ^ 62)
def itRng1 (f : Fe) : Fi := fun ε => (f ε).bind fun t => match t with | .int j => if small62 j then some (rng 0 j) else none | _ => none
def itRng2 (f g : Fe) : Fi := fun ε => (f ε).bind fun t => (g ε).bind fun u => match t, u with | .int i, .int j => if small62 i && small62 j then some (rng i j) else none | _, _ => none
def enum (ts : List T) : List T := ts.zipIdx.map fun p => .tuple [.int p.2, p.1]
def itEnum (f : Fi) : Fi := fun ε => (f ε).map enum

/-! ### targets -/
def gNm (i : Nat) : Fg := fun t ε => some (ε.set i (some (.imm t)))
def gAll : List Fg → List T → Ev → Option Ev
  | [], [], ε => some ε
  | g :: gs, t :: ts, ε => (g t ε).bind fun ε' => gAll gs ts ε'
  | _, _, _ => none
def gTu (gs : List Fg) : Fg := fun t ε => match t with | .tuple ts => gAll gs ts ε | _ => none

/-! ### comprehensions -/
def compL (g : Fg) (c : Ft) (e : Fe) : List T → Ev → Option (List T)
  | [], _ => some []
  | t :: ts, ε => (g t ε).bind fun ε1 => (c ε1).bind fun b => if b then (e ε1).bind fun y => (compL g c e ts ε1).map fun ys => y :: ys else compL g c e ts ε1
def capEnv (own : Nat) (caps : List Nat) (ε : Ev) : Ev := List.replicate own none ++ caps.map fun i => (ε[i]?).join
def comp (own : Nat) (caps : List Nat) (it : Fi) (g : Fg) (c : Ft) (e : Fe) : Fe := fun ε => (it ε).bind fun ts => if ts.length ≤ big then (compL g c e ts (capEnv own caps ε)).map .list else none

/-! ### statements -/
def skip : Fs := fun ε => some (.nx ε)
def seq (a b : Fs) : Fs := fun ε => (a ε).bind fun o => match o with | .nx ε' => b ε' | o => some o
def asg (i : Nat) (f : Fe) : Fs := fun ε => (f ε).map fun t => .nx (ε.set i (some (.imm t)))
/-- a new list to a name of its own -/
def asgN (i : Nat) (f : Fe) : Fs := fun ε => (f ε).bind fun t => match t with | .list ts => some (.nx (ε.set i (some (.own ts)))) | _ => none
def asgT (g : Fg) (f : Fe) : Fs := fun ε => (f ε).bind fun t => (g t ε).map .nx
def rtn (f : Fe) : Fs := fun ε => (f ε).map .rt
def iff (c : Ft) (a b : Fs) : Fs := fun ε => (c ε).bind fun x => if x then a ε else b ε
def brk : Fs := fun ε => some (.bk ε)
def cnt : Fs := fun ε => some (.ct ε)
def forL (g : Fg) (b : Fs) : List T → Ev → Option Out
  | [], ε => some (.nx ε)
  | t :: ts, ε => (g t ε).bind fun ε1 => (b ε1).bind fun o => match o with
    | .nx ε2 => forL g b ts ε2
    | .ct ε2 => forL g b ts ε2
    | .bk ε2 => some (.nx ε2)
    | .rt t => some (.rt t)
def for_ (it : Fi) (g : Fg) (b : Fs) : Fs := fun ε => (it ε).bind fun ts => forL g b ts ε
def whl (c : Ft) (b : Fs) : Nat → Fs
  | 0, _ => none
  | n + 1, ε => (c ε).bind fun x => if x then (b ε).bind fun o => (match o with
      | .nx ε2 => whl c b n ε2
      | .ct ε2 => whl c b n ε2
      | .bk ε2 => some (.nx ε2)
      | .rt t => some (.rt t)) else some (.nx ε)
def app (i : Nat) (f : Fe) : Fs := fun ε => match ε[i]? with
  | some (some (.own ts)) => (f ε).bind fun t => if ts.length < big then some (.nx (ε.set i (some (.own (ts ++ [t]))))) else none
  | _ => none
def ext (i : Nat) (f : Fe) : Fs := fun ε => match ε[i]? with
  | some (some (.own ts)) => (f ε).bind fun t => match t with
    | .list us => if ts.length + us.length ≤ big then some (.nx (ε.set i (some (.own (ts ++ us))))) else none
    | _ => none
  | _ => none
/-- x = y.pop() -/
def pop (i j : Nat) : Fs := fun ε => match ε[j]? with
  | some (some (.own ts)) => (ts.getLast?).bind fun t => if i = j then none else some (.nx ((ε.set j (some (.own ts.dropLast))).set i (some (.imm t))))
  | _ => none

/-- a, b = x, y -/
def par (i j : Nat) (own : Bool) (f g : Fe) : Fs := fun ε => (f ε).bind fun t => (g ε).bind fun u => if own then (match u with | .list us => some (.nx ((ε.set i (some (.imm t))).set j (some (.own us)))) | _ => none) else some (.nx ((ε.set i (some (.imm t))).set j (some (.imm u))))
/-- d = {k: v} -/
def dNew (i : Nat) (k v : Fe) : Fs := fun ε => (k ε).bind fun t => (keyOf t).bind fun k => (v ε).map fun v => .nx (ε.set i (some (.dic [(k, v)])))
def pairsD : List T → Option (List (Key × T))
  | [] => some []
  | .tuple [k, v] :: r => (keyOf k).bind fun k => (pairsD r).map fun r => (k, v) :: r
  | _ :: _ => none
/-- d = dict(pairs) -/
def dOf (i : Nat) (f : Fe) : Fs := fun ε => (f ε).bind fun t => match t with | .list ts => (pairsD ts).map fun kvs => .nx (ε.set i (some (.dic (kvs.foldl (fun d p => putD d p.1 p.2) [])))) | _ => none
def dPut (i : Nat) (k v : Fe) : Fs := fun ε => (v ε).bind fun v => (k ε).bind fun t => (keyOf t).bind fun k => (dic? i ε).bind fun kvs => if kvs.length < big then some (.nx (ε.set i (some (.dic (putD kvs k v))))) else none

/-! ### defs -/
def runF (b : Fs) (n : Nat) (as : List T) : Option T := (b ((as.map fun t => some (.imm t)) ++ List.replicate (n - as.length) none)).bind fun o => match o with
  | .rt t => some t
  | .nx _ => some .none
  | _ => none
end D
end
section
set_option linter.all false
set_option Elab.async false
set_option maxRecDepth 100000
set_option autoImplicit false
namespace D
open PySem PySem.Spec PyProof.Rows L2

/-! ### a tree and the value that stands for it -/
mutual
def Rep (K : PySem.W.Frag) (F : Addr → Prop) (H : Hp) : T → V → Prop
  | .none, v => v = .non
  | .bool b, v => v = .bl b
  | .int i, v => v = .int i
  | .str x, v => v = .str x
  | .dict _, _ => False
  | .tuple ts, v => ∃ a vs, v = .ref a ∧ SqT K H a vs ∧ RepL K F H ts vs
  | .list ts, v => ∃ a vs, v = .ref a ∧ F a ∧ Rd H a (.lst vs) ∧ RepL K F H ts vs
def RepL (K : PySem.W.Frag) (F : Addr → Prop) (H : Hp) : List T → List V → Prop
  | [], vs => vs = []
  | t :: ts, vs => ∃ v r, vs = v :: r ∧ Rep K F H t v ∧ RepL K F H ts r
end
section
variable {K : PySem.W.Frag} {F F' : Addr → Prop} {H H' : Hp}
mutual
theorem Rep.keep (h1 : ∀ b xs, SqT K H b xs → SqT K H' b xs) (h2 : ∀ b xs, F b → Rd H b (.lst xs) → F' b ∧ Rd H' b (.lst xs)) : ∀ {t : T} {v : V}, Rep K F H t v → Rep K F' H' t v
  | .none, v, h => by simpa [Rep] using h
  | .bool _, v, h => by simpa [Rep] using h
  | .dict _, v, h => by simp [Rep] at h
  | .int _, v, h => by simpa [Rep] using h
  | .str _, v, h => by simpa [Rep] using h
  | .tuple ts, v, h => by
    simp only [Rep] at h ⊢
    obtain ⟨a, vs, e, q, r⟩ := h
    exact ⟨a, vs, e, h1 _ _ q, RepL.keep h1 h2 r⟩
  | .list ts, v, h => by
    simp only [Rep] at h ⊢
    obtain ⟨a, vs, e, f, q, r⟩ := h
    exact ⟨a, vs, e, (h2 _ _ f q).1, (h2 _ _ f q).2, RepL.keep h1 h2 r⟩
theorem RepL.keep (h1 : ∀ b xs, SqT K H b xs → SqT K H' b xs) (h2 : ∀ b xs, F b → Rd H b (.lst xs) → F' b ∧ Rd H' b (.lst xs)) : ∀ {ts : List T} {vs : List V}, RepL K F H ts vs → RepL K F' H' ts vs
  | [], vs, h => by simpa [RepL] using h
  | t :: ts, vs, h => by
    simp only [RepL] at h ⊢
    obtain ⟨v, r, e, q, z⟩ := h
    exact ⟨v, r, e, Rep.keep h1 h2 q, RepL.keep h1 h2 z⟩
end
theorem RepL.nil : RepL K F H [] [] := by simp [RepL]
theorem RepL.cons {t : T} {v : V} {ts : List T} {vs : List V} (h : Rep K F H t v) (r : RepL K F H ts vs) : RepL K F H (t :: ts) (v :: vs) := by
  simp only [RepL]
  exact ⟨v, vs, rfl, h, r⟩
theorem RepL.length : ∀ {ts : List T} {vs : List V}, RepL K F H ts vs → ts.length = vs.length
  | [], vs, h => by
    simp only [RepL] at h
    subst h
    rfl
  | t :: ts, vs, h => by
    simp only [RepL] at h
    obtain ⟨v, r, e, q, z⟩ := h
    subst e
    simp [RepL.length z]
theorem RepL.get : ∀ {ts : List T} {vs : List V} {i : Nat} {t : T}, RepL K F H ts vs → ts[i]? = some t → ∃ v, vs[i]? = some v ∧ Rep K F H t v
  | [], vs, i, t, h, e => by simp at e
  | x :: ts, vs, 0, t, h, e => by
    simp only [RepL] at h
    obtain ⟨v, r, rfl, q, z⟩ := h
    simp at e
    subst e
    exact ⟨v, rfl, q⟩
  | x :: ts, vs, i + 1, t, h, e => by
    simp only [RepL] at h
    obtain ⟨v, r, rfl, q, z⟩ := h
    obtain ⟨u, h1, h2⟩ := RepL.get (i := i) (t := t) z (by simpa using e)
    exact ⟨u, by simpa using h1, h2⟩
theorem RepL.append : ∀ {ts us : List T} {vs ws : List V}, RepL K F H ts vs → RepL K F H us ws → RepL K F H (ts ++ us) (vs ++ ws)
  | [], us, vs, ws, h, r => by
    simp only [RepL] at h
    subst h
    exact r
  | t :: ts, us, vs, ws, h, r => by
    simp only [RepL] at h
    obtain ⟨v, z, rfl, q, y⟩ := h
    exact RepL.cons q (RepL.append y r)
theorem RepL.take : ∀ {ts : List T} {vs : List V} (n : Nat), RepL K F H ts vs → RepL K F H (ts.take n) (vs.take n)
  | [], vs, n, h => by
    simp only [RepL] at h
    subst h
    simpa using RepL.nil
  | t :: ts, vs, 0, h => by simpa using RepL.nil
  | t :: ts, vs, n + 1, h => by
    simp only [RepL] at h
    obtain ⟨v, z, rfl, q, y⟩ := h
    simpa using RepL.cons q (RepL.take n y)
theorem RepL.drop : ∀ {ts : List T} {vs : List V} (n : Nat), RepL K F H ts vs → RepL K F H (ts.drop n) (vs.drop n)
  | [], vs, n, h => by
    simp only [RepL] at h
    subst h
    simpa using RepL.nil
  | t :: ts, vs, 0, h => by simpa using h
  | t :: ts, vs, n + 1, h => by
    simp only [RepL] at h
    obtain ⟨v, z, rfl, q, y⟩ := h
    simpa using RepL.drop n y
end

/-! ### heaps that grow -/
structure Ext (F : Addr → Prop) (H : Hp) (F' : Addr → Prop) (H' : Hp) : Prop where
  same : Same H H'
  sub : ∀ a, F a → F' a
  new : ∀ a, F' a → F a ∨ H a = none
  dom : ∀ a, F' a → ∃ o, H' a = some o
section
variable {K : PySem.W.Frag} {F F1 F2 : Addr → Prop} {H H1 H2 : Hp}
theorem Ext.refl (d : ∀ a, F a → ∃ o, H a = some o) : Ext F H F H := ⟨Same.refl H, fun _ h => h, fun _ h => .inl h, d⟩
theorem Ext.trans (a : Ext F H F1 H1) (b : Ext F1 H1 F2 H2) : Ext F H F2 H2 :=
  ⟨a.same.trans b.same, fun x h => b.sub x (a.sub x h), fun x h => (b.new x h).elim (fun z => a.new x z) fun z => .inr (by
    cases e : H x with
    | none => rfl
    | some o =>
      rw [a.same x o e] at z
      cases z), b.dom⟩
theorem Rd.same {a : Addr} {u : HO} (s : Same H H1) (r : Rd H a u) : Rd H1 a u := by
  rcases r with r | ⟨o, r⟩
  · exact .inl (s _ _ r)
  · exact .inr ⟨o, s _ _ r⟩
theorem SqT.same {a : Addr} {xs : List V} (s : Same H H1) (r : SqT K H a xs) : SqT K H1 a xs := by
  rcases r with r | r
  · exact .inl (Rd.same s r)
  · exact .inr r
theorem Rep.ext {t : T} {v : V} (r : Rep K F H t v) (x : Ext F H F1 H1) : Rep K F1 H1 t v := r.keep (fun _ _ q => SqT.same x.same q) fun b _ f q => ⟨x.sub b f, Rd.same x.same q⟩
theorem RepL.ext {t : List T} {v : List V} (r : RepL K F H t v) (x : Ext F H F1 H1) : RepL K F1 H1 t v := r.keep (fun _ _ q => SqT.same x.same q) fun b _ f q => ⟨x.sub b f, Rd.same x.same q⟩
/-- something is laid at a new place -/
theorem Ext.laid {p : Addr} {o : HO} (d : ∀ a, F a → ∃ o, H a = some o) (hp : H p = none) : Ext F H F (upd H p o) :=
  ⟨same_new' hp o, fun _ h => h, fun _ h => .inl h, fun a h => by
    obtain ⟨u, e⟩ := d a h
    exact ⟨u, same_new' hp o a u e⟩⟩
where same_new' {H : Hp} {p : Addr} (h : H p = none) (o : HO) : Same H (upd H p o) := fun b u q => by rw [upd_ne (ne_of_none q h)]; exact q
/-- .. and nobody will change it -/
theorem Ext.laidF {p : Addr} {o : HO} (d : ∀ a, F a → ∃ o, H a = some o) (hp : H p = none) : Ext F H (fun a => F a ∨ a = p) (upd H p o) :=
  ⟨Ext.laid.same_new' hp o, fun _ h => .inl h, fun a h => by
    rcases h with h | rfl
    · exact .inl h
    · exact .inr hp, fun a h => by
    rcases h with h | rfl
    · obtain ⟨u, e⟩ := d a h
      exact ⟨u, Ext.laid.same_new' hp o a u e⟩
    · exact ⟨o, upd_same⟩⟩
end

/-! ### what stays: tuples, and lists that nobody changes -/
structure Kp (K : PySem.W.Frag) (F : Addr → Prop) (H : Hp) (F' : Addr → Prop) (H' : Hp) : Prop where
  tup : ∀ b xs, SqT K H b xs → SqT K H' b xs
  lst : ∀ b xs, F b → Rd H b (.lst xs) → F' b ∧ Rd H' b (.lst xs)
section
variable {K : PySem.W.Frag} {F F1 F2 : Addr → Prop} {H H1 H2 : Hp}
theorem Kp.refl : Kp K F H F H := ⟨fun _ _ h => h, fun _ _ f h => ⟨f, h⟩⟩
theorem Kp.trans (a : Kp K F H F1 H1) (b : Kp K F1 H1 F2 H2) : Kp K F H F2 H2 := ⟨fun x xs h => b.tup x xs (a.tup x xs h), fun x xs f h => b.lst x xs (a.lst x xs f h).1 (a.lst x xs f h).2⟩
theorem Ext.kp (x : Ext F H F1 H1) : Kp K F H F1 H1 := ⟨fun _ _ q => SqT.same x.same q, fun b _ f q => ⟨x.sub b f, Rd.same x.same q⟩⟩
theorem Rep.kp {t : T} {v : V} (r : Rep K F H t v) (x : Kp K F H F1 H1) : Rep K F1 H1 t v := r.keep x.tup x.lst
theorem RepL.kp {t : List T} {v : List V} (r : RepL K F H t v) (x : Kp K F H F1 H1) : RepL K F1 H1 t v := r.keep x.tup x.lst
end

/-! ### readable: a tree, or a list of this frame's own -/
def RepR (K : PySem.W.Frag) (O F : Addr → Prop) (H : Hp) (t : T) (v : V) : Prop :=
  Rep K F H t v ∨ ∃ ts a vs, t = .list ts ∧ v = .ref a ∧ O a ∧ H a = some (.lst vs) ∧ RepL K F H ts vs
section
variable {K : PySem.W.Frag} {O F F1 : Addr → Prop} {H H1 : Hp} {v : V}
theorem RepR.ext {t : T} (r : RepR K O F H t v) (x : Ext F H F1 H1) : RepR K O F1 H1 t v := by
  rcases r with r | ⟨ts, a, vs, e1, e2, e3, e4, r⟩
  · exact .inl (r.ext x)
  · exact .inr ⟨ts, a, vs, e1, e2, e3, x.same _ _ e4, r.ext x⟩
theorem RepR.non (r : RepR K O F H .none v) : v = .non := by
  rcases r with r | ⟨ts, a, vs, e1, _⟩
  · simpa [Rep] using r
  · cases e1
theorem RepR.bl {b : Bool} (r : RepR K O F H (.bool b) v) : v = .bl b := by
  rcases r with r | ⟨ts, a, vs, e1, _⟩
  · simpa [Rep] using r
  · cases e1
theorem RepR.int {i : Int} (r : RepR K O F H (.int i) v) : v = .int i := by
  rcases r with r | ⟨ts, a, vs, e1, _⟩
  · simpa [Rep] using r
  · cases e1
theorem RepR.str {x : Str} (r : RepR K O F H (.str x) v) : v = .str x := by
  rcases r with r | ⟨ts, a, vs, e1, _⟩
  · simpa [Rep] using r
  · cases e1
theorem RepR.tup {ts : List T} (r : RepR K O F H (.tuple ts) v) : ∃ a vs, v = .ref a ∧ SqT K H a vs ∧ RepL K F H ts vs := by
  rcases r with r | ⟨ts, a, vs, e1, _⟩
  · simpa [Rep] using r
  · cases e1
theorem RepR.lst {ts : List T} (r : RepR K O F H (.list ts) v) : ∃ a vs, v = .ref a ∧ Rd H a (.lst vs) ∧ RepL K F H ts vs := by
  rcases r with r | ⟨us, a, vs, e1, e2, e3, e4, r⟩
  · simp only [Rep] at r
    obtain ⟨a, vs, e, _, q, z⟩ := r
    exact ⟨a, vs, e, q, z⟩
  · cases e1
    exact ⟨a, vs, e2, .inl e4, r⟩
end

/-! ### the names -/
def RepD (K : PySem.W.Frag) (F : Addr → Prop) (H : Hp) : List (D.Key × T) → List (D.Key × V) → Prop
  | [], vs => vs = []
  | p :: ts, vs => ∃ v r, vs = (p.1, v) :: r ∧ Rep K F H p.2 v ∧ RepD K F H ts r
theorem RepD.kp {K : PySem.W.Frag} {F F' : Addr → Prop} {H H' : Hp} (x : Kp K F H F' H') : ∀ {ts : List (D.Key × T)} {vs : List (D.Key × V)}, RepD K F H ts vs → RepD K F' H' ts vs
  | [], vs, h => h
  | p :: ts, vs, h => by
    obtain ⟨v, r, e, q, z⟩ := h
    exact ⟨v, r, e, q.kp x, RepD.kp x z⟩
def RelSl (K : PySem.W.Frag) (O F : Addr → Prop) (H : Hp) : Sl → V → Prop
  | .imm t, v => Rep K F H t v
  | .own ts, v => ∃ a vs, v = .ref a ∧ ¬ F a ∧ O a ∧ H a = some (.lst vs) ∧ RepL K F H ts vs
  | .dic kvs, v => ∃ a vs, v = .ref a ∧ ¬ F a ∧ O a ∧ H a = some (.dK vs) ∧ RepD K F H kvs vs
def Sl.isOwn : Sl → Bool
  | .imm _ => false
  | _ => true
/-- the names of the frame by trees: F₀, H₀ at the frame's entry, F, H now -/
structure RelE (K : PySem.W.Frag) (F₀ : Addr → Prop) (H₀ : Hp) (O F : Addr → Prop) (H : Hp) (ε : Ev) (σ : L2.St) : Prop where
  len : ε.length = σ.length
  val : ∀ (i : Nat) (s : Sl), ε[i]? = some (some s) → ∃ v, σ[i]? = some (some v) ∧ RelSl K O F H s v
  ne : ∀ (i j : Nat) (s u : Sl) (a : Addr), i ≠ j → ε[i]? = some (some s) → ε[j]? = some (some u) → s.isOwn = true → u.isOwn = true → σ[i]? = some (some (.ref a)) → σ[j]? = some (some (.ref a)) → False
  ent : Ext F₀ H₀ F H
  o0 : ∀ a, O a → H₀ a = none
  fr : ∀ a, H a = none → O a
section
variable {K : PySem.W.Frag} {F₀ O F F1 : Addr → Prop} {H₀ H H1 : Hp} {ε : Ev} {σ : L2.St}
theorem RelE.dom (r : RelE K F₀ H₀ O F H ε σ) : ∀ a, F a → ∃ o, H a = some o := r.ent.dom
theorem RelSl.ext {s : Sl} {v : V} (r : RelSl K O F H s v) (x : Ext F H F1 H1) : RelSl K O F1 H1 s v := by
  have nf : ∀ {a : Addr} {o : HO}, ¬ F a → H a = some o → ¬ F1 a := fun {a o} n eh f => by
    rcases x.new a f with z | z
    · exact n z
    · rw [eh] at z
      cases z
  cases s with
  | imm t => exact Rep.ext r x
  | own ts =>
    obtain ⟨a, vs, e, n, e0, eh, r⟩ := r
    exact ⟨a, vs, e, nf n eh, e0, x.same _ _ eh, r.ext x⟩
  | dic ts =>
    obtain ⟨a, vs, e, n, e0, eh, r⟩ := r
    exact ⟨a, vs, e, nf n eh, e0, x.same _ _ eh, RepD.kp x.kp r⟩
theorem RelE.ext (r : RelE K F₀ H₀ O F H ε σ) (x : Ext F H F1 H1) : RelE K F₀ H₀ O F1 H1 ε σ :=
  ⟨r.len, fun i s e => by
    obtain ⟨v, h1, h2⟩ := r.val i s e
    exact ⟨v, h1, h2.ext x⟩, r.ne, r.ent.trans x, r.o0, fun a e => r.fr a (by
    cases z : H a with
    | none => rfl
    | some w =>
      rw [x.same a w z] at e
      cases e)⟩
theorem get_set {α : Type} {l : List (Option α)} {i j : Nat} {x : Option α} {y : α} (h : (l.set i x)[j]? = some (some y)) : (i = j ∧ x = some y ∧ j < l.length) ∨ (i ≠ j ∧ l[j]? = some (some y)) := by
  rw [List.getElem?_set] at h
  by_cases e : i = j
  · subst e
    rw [if_pos rfl] at h
    split at h
    next hl => exact .inl ⟨rfl, Option.some.inj h, hl⟩
    next => cases h
  · rw [if_neg e] at h
    exact .inr ⟨e, h⟩
theorem set_get {α : Type} {l : List (Option α)} {i : Nat} {x : Option α} (h : i < l.length) : (l.set i x)[i]? = some x := by
  rw [List.getElem?_set, if_pos rfl, if_pos h]
theorem set_get_ne {α : Type} {l : List (Option α)} {i j : Nat} {x : Option α} (h : i ≠ j) : (l.set i x)[j]? = l[j]? := by
  rw [List.getElem?_set, if_neg h]
/-- a name takes a tree -/
theorem RelE.set {t : T} {v : V} (r : RelE K F₀ H₀ O F H ε σ) (i : Nat) (h : Rep K F H t v) : RelE K F₀ H₀ O F H (ε.set i (some (.imm t))) (σ.set i (some v)) := by
  refine ⟨by simp [r.len], fun j s e => ?_, fun j k s u a hjk e1 e2 o1 o2 h1 h2 => ?_, r.ent, r.o0, r.fr⟩
  · rcases get_set e with ⟨rfl, e', hl⟩ | ⟨ne, e'⟩
    · cases e'
      exact ⟨v, set_get (by rw [← r.len]; exact hl), h⟩
    · obtain ⟨w, h1, h2⟩ := r.val j s e'
      exact ⟨w, by rw [set_get_ne ne]; exact h1, h2⟩
  · rcases get_set e1 with ⟨rfl, e', hl⟩ | ⟨ne1, e1'⟩
    · cases e'
      cases o1
    · rcases get_set e2 with ⟨rfl, e', hl⟩ | ⟨ne2, e2'⟩
      · cases e'
        cases o2
      · rw [set_get_ne ne1] at h1
        rw [set_get_ne ne2] at h2
        exact r.ne j k s u a hjk e1' e2' o1 o2 h1 h2
/-- a name takes a list or dict of its own -/
theorem RelE.setOwn {s : Sl} {a : Addr} (r : RelE K F₀ H₀ O F H ε σ) (i : Nat) (h : RelSl K O F H s (.ref a)) (fr : ∀ (j : Nat) (u : Sl), ε[j]? = some (some u) → u.isOwn = true → σ[j]? ≠ some (some (.ref a))) :
    RelE K F₀ H₀ O F H (ε.set i (some s)) (σ.set i (some (.ref a))) := by
  refine ⟨by simp [r.len], fun j u e => ?_, fun j k u w b hjk e1 e2 o1 o2 h1 h2 => ?_, r.ent, r.o0, r.fr⟩
  · rcases get_set e with ⟨rfl, e', hl⟩ | ⟨ne, e'⟩
    · cases e'
      exact ⟨_, set_get (by rw [← r.len]; exact hl), h⟩
    · obtain ⟨w, h1, h2⟩ := r.val j u e'
      exact ⟨w, by rw [set_get_ne ne]; exact h1, h2⟩
  · rcases get_set e1 with ⟨rfl, e', hl⟩ | ⟨ne1, e1'⟩
    · rcases get_set e2 with ⟨rfl, _, _⟩ | ⟨ne2, e2'⟩
      · exact hjk rfl
      · rw [set_get (by rw [← r.len]; exact hl)] at h1
        rw [set_get_ne ne2] at h2
        cases h1
        exact fr k w e2' o2 h2
    · rw [set_get_ne ne1] at h1
      rcases get_set e2 with ⟨rfl, e', hl⟩ | ⟨ne2, e2'⟩
      · rw [set_get (by rw [← r.len]; exact hl)] at h2
        cases h2
        exact fr j u e1' o1 h1
      · rw [set_get_ne ne2] at h2
        exact r.ne j k u w b hjk e1' e2' o1 o2 h1 h2
/-- an own list or dict is changed -/
theorem RelE.mut {s s' : Sl} {a : Addr} {o o' : HO} (r : RelE K F₀ H₀ O F H ε σ) {i : Nat} (e : ε[i]? = some (some s)) (ho : s.isOwn = true) (hv : σ[i]? = some (some (.ref a))) (hn : ¬ F a) (ho' : O a) (ha : H a = some o)
    (hk : (∃ xs, o = .lst xs) ∨ ∃ xs, o = .dK xs) (h : Kp K F H F (upd H a o') → RelSl K O F (upd H a o') s' (.ref a)) : Kp K F H F (upd H a o') ∧ RelE K F₀ H₀ O F (upd H a o') (ε.set i (some s')) σ := by
  have kp : Kp K F H F (upd H a o') := by
    refine ⟨fun b xs q => ?_, fun b xs f q => ⟨f, ?_⟩⟩
    · rcases q with q | q
      · refine .inl ?_
        have nb : b ≠ a := by
          rintro rfl
          rcases q with q | ⟨_, q⟩
          · rw [ha] at q
            cases q
            rcases hk with ⟨_, z⟩ | ⟨_, z⟩ <;> cases z
          · rw [ha] at q
            cases q
            rcases hk with ⟨_, z⟩ | ⟨_, z⟩ <;> cases z
        rcases q with q | ⟨u, q⟩
        · exact .inl (by rw [upd_ne nb]; exact q)
        · exact .inr ⟨u, by rw [upd_ne nb]; exact q⟩
      · exact .inr q
    · have nb : b ≠ a := by
        rintro rfl
        exact hn f
      rcases q with q | ⟨u, q⟩
      · exact .inl (by rw [upd_ne nb]; exact q)
      · exact .inr ⟨u, by rw [upd_ne nb]; exact q⟩
  have h0 := r.o0 a ho'
  have hil : i < ε.length := (List.getElem?_eq_some_iff.mp e).1
  refine ⟨kp, ⟨by simp [r.len], fun j u e' => ?_, fun j k u w b hjk e1 e2 o1 o2 h1 h2 => ?_, ?_, r.o0, fun b e' => r.fr b (by
    by_cases nb : b = a
    · subst nb
      rw [upd_same] at e'
      cases e'
    · rwa [upd_ne nb] at e')⟩⟩
  · rcases get_set e' with ⟨rfl, e'', hl⟩ | ⟨ne, e''⟩
    · cases e''
      exact ⟨_, hv, h kp⟩
    · obtain ⟨w, h1, h2⟩ := r.val j u e''
      refine ⟨w, h1, ?_⟩
      cases u with
      | imm t => exact Rep.kp h2 kp
      | own ts =>
        obtain ⟨b, vs, rfl, n, e0, eh, z⟩ := h2
        have nb : b ≠ a := by
          rintro rfl
          exact r.ne i j s (.own ts) b ne e e'' ho rfl hv h1
        exact ⟨b, vs, rfl, n, e0, by rw [upd_ne nb]; exact eh, z.kp kp⟩
      | dic ts =>
        obtain ⟨b, vs, rfl, n, e0, eh, z⟩ := h2
        have nb : b ≠ a := by
          rintro rfl
          exact r.ne i j s (.dic ts) b ne e e'' ho rfl hv h1
        exact ⟨b, vs, rfl, n, e0, by rw [upd_ne nb]; exact eh, RepD.kp kp z⟩
  · have old : ∀ {m : Nat} {x : Sl}, (ε.set i (some s'))[m]? = some (some x) → ∃ y, ε[m]? = some (some y) ∧ (x.isOwn = true → y.isOwn = true) := fun {m x} em => by
      rcases get_set em with ⟨rfl, _, _⟩ | ⟨_, z⟩
      · exact ⟨s, e, fun _ => ho⟩
      · exact ⟨x, z, fun z => z⟩
    obtain ⟨y1, z1, w1⟩ := old e1
    obtain ⟨y2, z2, w2⟩ := old e2
    exact r.ne j k y1 y2 b hjk z1 z2 (w1 o1) (w2 o2) h1 h2
  · refine ⟨fun b u q => ?_, r.ent.sub, r.ent.new, fun b f => ?_⟩
    · have nb : b ≠ a := by
        rintro rfl
        rw [h0] at q
        cases q
      rw [upd_ne nb]
      exact r.ent.same b u q
    · have nb : b ≠ a := by
        rintro rfl
        exact hn f
      rw [upd_ne nb]
      exact r.ent.dom b f
end

/-! ### the judgements -/
/-- readable -/
def tR (K : PySem.W.Frag) (f : Fe) : TE := fun σ H Q => ∃ F₀ H₀ O F ε t, RelE K F₀ H₀ O F H ε σ ∧ f ε = some t ∧ ∀ v F' H', Ext F H F' H' → RepR K O F' H' t v → Q v H'
/-- a tree -/
def tV (K : PySem.W.Frag) (f : Fe) : TE := fun σ H Q => ∃ F₀ H₀ O F ε t, RelE K F₀ H₀ O F H ε σ ∧ f ε = some t ∧ ∀ v F' H', Ext F H F' H' → Rep K F' H' t v → Q v H'
/-- a new list -/
def tN (K : PySem.W.Frag) (f : Fe) : TE := fun σ H Q => ∃ F₀ H₀ O F ε ts, RelE K F₀ H₀ O F H ε σ ∧ f ε = some (.list ts) ∧ ∀ a vs F' H', Ext F H F' H' → H a = none → ¬ F' a → H' a = some (.lst vs) → RepL K F' H' ts vs → Q (.ref a) H'
def tT (K : PySem.W.Frag) (f : Ft) : TT := fun σ H Q => ∃ F₀ H₀ O F ε b, RelE K F₀ H₀ O F H ε σ ∧ f ε = some b ∧ ∀ F' H', Ext F H F' H' → Q b H'
def tAR (K : PySem.W.Frag) (fs : List Fe) : TA := fun σ H Q => ∃ F₀ H₀ O F ε ts, RelE K F₀ H₀ O F H ε σ ∧ args fs ε = some ts ∧ ∀ vs F' H', Ext F H F' H' → Paired (RepR K O F' H') ts vs → Q vs H'
def tAV (K : PySem.W.Frag) (fs : List Fe) : TA := fun σ H Q => ∃ F₀ H₀ O F ε ts, RelE K F₀ H₀ O F H ε σ ∧ args fs ε = some ts ∧ ∀ vs F' H', Ext F H F' H' → RepL K F' H' ts vs → Q vs H'
abbrev PEr (X : Cx) (e : Expr) (f : Fe) : Prop := PE X e (tR X.K f)
abbrev PEv (X : Cx) (e : Expr) (f : Fe) : Prop := PE X e (tV X.K f)
abbrev PEn (X : Cx) (e : Expr) (f : Fe) : Prop := PE X e (tN X.K f)
abbrev PTt (X : Cx) (e : Expr) (f : Ft) : Prop := PT X e (tT X.K f)
abbrev PWt (X : Cx) (e : Expr) (f : Ft) : Prop := PW X e (tT X.K f)
abbrev PAr (X : Cx) (es : List Expr) (fs : List Fe) : Prop := PA X es (tAR X.K fs)
abbrev PAv (X : Cx) (es : List Expr) (fs : List Fe) : Prop := PA X es (tAV X.K fs)
theorem PE_imp {X : Cx} {e : Expr} {t t' : TE} (h : PE X e t) (k : ∀ σ H Q, t' σ H Q → t σ H Q) : PE X e t' := fun pins s σ H Q I q => h pins s σ H Q I (k σ H Q q)
theorem PT_imp {X : Cx} {e : Expr} {t t' : TT} (h : PT X e t) (k : ∀ σ H Q, t' σ H Q → t σ H Q) : PT X e t' := fun pins s σ H Q I q => h pins s σ H Q I (k σ H Q q)
theorem PW_imp {X : Cx} {e : Expr} {t t' : TT} (h : PW X e t) (k : ∀ σ H Q, t' σ H Q → t σ H Q) : PW X e t' := fun w pins s σ H Q I q => h w pins s σ H Q I (k σ H Q q)
theorem PA_imp {X : Cx} {e : List Expr} {t t' : TA} (h : PA X e t) (k : ∀ σ H Q, t' σ H Q → t σ H Q) : PA X e t' := fun pos pins s σ H Q I q => h pos pins s σ H Q I (k σ H Q q)
theorem PS_imp {X : Cx} {e : Stmt} {t t' : TS} (h : PS X e t) (k : ∀ D σ H, t' D σ H → t D σ H) : PS X e t' := fun pins s σ H D I q => h pins s σ H D I (k D σ H q)
theorem PSs_imp {X : Cx} {e : List Stmt} {t t' : TS} (h : PSs X e t) (k : ∀ D σ H, t' D σ H → t D σ H) : PSs X e t' := fun pins s σ H D I q => h pins s σ H D I (k D σ H q)
section
variable {X : Cx} {e : Expr} {f : Fe}
theorem v2r (h : PEv X e f) : PEr X e f := PE_imp h fun σ H Q ⟨F₀, H₀, O, F, ε, t, r, e, k⟩ => ⟨F₀, H₀, O, F, ε, t, r, e, fun v F' H' x q => k v F' H' x (.inl q)⟩
/-- a new list becomes one that nobody changes -/
theorem n2v (h : PEn X e f) (hf : ∀ ε t, f ε = some t → ∃ ts, t = .list ts) : PEv X e f := PE_imp h fun σ H Q ⟨F₀, H₀, O, F, ε, t, r, e, k⟩ => by
  obtain ⟨ts, rfl⟩ := hf _ _ e
  refine ⟨F₀, H₀, O, F, ε, ts, r, e, fun a vs F' H' x hn nf ha q => ?_⟩
  have y : Ext F H (fun b => F' b ∨ b = a) H' := ⟨x.same, fun b z => .inl (x.sub b z), fun b z => by
    rcases z with z | rfl
    · exact x.new b z
    · exact .inr hn, fun b z => by
    rcases z with z | rfl
    · exact x.dom b z
    · exact ⟨_, ha⟩⟩
  refine k (.ref a) _ H' y ?_
  simp only [Rep]
  exact ⟨a, vs, rfl, .inr rfl, .inl ha, q.keep (fun _ _ z => z) fun b _ z w => ⟨.inl z, w⟩⟩
end
end D
end
section
set_option linter.all false
set_option Elab.async false
set_option maxRecDepth 100000
set_option autoImplicit false
namespace D
open PySem PySem.Spec PyProof.Rows L2
section
variable {X : Cx} {a b c e : Expr} {f g h : Fe} {pos : Pos}

/-! ### constants and names -/
theorem q_cst {t : T} {v : V} (he : PE X e (tC v)) (hr : ∀ F H, Rep X.K F H t v) : PEv X e (cst t) := PE_imp he fun σ H Q ⟨F₀, H₀, O, F, ε, t', r, e, k⟩ => by
  cases e
  exact k v F H (Ext.refl r.dom) (hr _ _)
theorem q_int {i j} : PEv X (.Constant (.int i) j pos) (cst (.int i)) := q_cst pe_int fun _ _ => by simp [Rep]
theorem q_bl {i j} : PEv X (.Constant (.bool i) j pos) (cst (.bool i)) := q_cst pe_bl fun _ _ => by simp [Rep]
theorem q_str {i j} : PEv X (.Constant (.str i) j pos) (cst (.str i)) := q_cst pe_str fun _ _ => by simp [Rep]
theorem q_non {j} : PEv X (.Constant .none j pos) (cst .none) := q_cst pe_non fun _ _ => by simp [Rep]
theorem q_nm (i : Nat) {x : Str} (hN : X.N[i]? = some x := by rfl) (hv : Vis X.env.scope x := by first | exact Or.inl rfl | exact Or.inr (Or.inl rfl) | exact Or.inr (Or.inr rfl)) (hd : (x == ("__debug__" : Str)) = false := by decide)
    (hcd : (x == ("__classdict__" : Str)) = false := by decide) : PEr X (.Name x pos) (nm i) := PE_imp (pv i hN hv hd hcd) fun σ H Q ⟨F₀, H₀, O, F, ε, t, r, e, k⟩ => by
  unfold nm at e
  split at e
  next t' he =>
    cases e
    obtain ⟨v, h1, h2⟩ := r.val _ _ he
    exact ⟨v, h1, k v F H (Ext.refl r.dom) (.inl h2)⟩
  next ts he =>
    cases e
    obtain ⟨v, h1, a, vs, rfl, n, h0, hh, hr⟩ := r.val _ _ he
    exact ⟨_, h1, k _ F H (Ext.refl r.dom) (.inr ⟨ts, a, vs, rfl, rfl, h0, hh, hr⟩)⟩
  next => cases e
theorem q_nmV (i : Nat) {x : Str} (hN : X.N[i]? = some x := by rfl) (hv : Vis X.env.scope x := by first | exact Or.inl rfl | exact Or.inr (Or.inl rfl) | exact Or.inr (Or.inr rfl)) (hd : (x == ("__debug__" : Str)) = false := by decide)
    (hcd : (x == ("__classdict__" : Str)) = false := by decide) : PEv X (.Name x pos) (nmV i) := PE_imp (pv i hN hv hd hcd) fun σ H Q ⟨F₀, H₀, O, F, ε, t, r, e, k⟩ => by
  unfold nmV at e
  split at e
  next t' he =>
    cases e
    obtain ⟨v, h1, h2⟩ := r.val _ _ he
    exact ⟨v, h1, k v F H (Ext.refl r.dom) h2⟩
  next => cases e

/-! ### operations on two values -/
/-- what a rule by values must show -/
def Op2 (K : PySem.W.Frag) (o : T → T → Option T) (R : R2) : Prop :=
  ∀ (O F : Addr → Prop) (H : Hp) (x y t : T) (vx vy : V) (Q : VK), (∀ a, F a → ∃ o, H a = some o) → RepR K O F H x vx → RepR K O F H y vy → o x y = some t →
    (∀ v F' H', Ext F H F' H' → Rep K F' H' t v → Q v H') → R vx vy H Q
theorem op2_imp {o : T → T → Option T} {R : R2} (h : Op2 X.K o R) : ∀ σ H Q, tV X.K (op2 o f g) σ H Q → tOp R (tR X.K f) (tR X.K g) σ H Q := by
  rintro σ H Q ⟨F₀, H₀, O, F, ε, t, r, e, k⟩
  simp only [op2, Option.bind_eq_some_iff] at e
  obtain ⟨x, ex, y, ey, eo⟩ := e
  refine ⟨F₀, H₀, O, F, ε, x, r, ex, fun vx F1 H1 x1 rx => ⟨F₀, H₀, O, F1, ε, y, r.ext x1, ey, fun vy F2 H2 x2 ry => ?_⟩⟩
  exact h O F2 H2 x y t vx vy Q x2.dom (rx.ext x2) ry eo fun v F' H' x3 q3 => k v F' H' ((x1.trans x2).trans x3) q3
theorem Inv.lstR {pins : List (Addr × Obj)} {σ : L2.St} {H : Hp} {s : Shared} {l : Addr} {xs : List V} (I : Inv X pins σ H s) (hH : Rd H l (.lst xs)) :
    xs.length ≤ sizeLine ∧ ∃ (its : List Value) (n : Nat), Vals xs its ∧ xs.length = its.length ∧ s.heap.get? l = some { cls := .type "list", data := .seq its.toArray n } := by
  obtain ⟨z, its, n, r, e⟩ := hH.ok I.hok
  exact ⟨z, its, n, r, r.length, e⟩
def rCatR : R2 := fun x y H Q => ∃ l b xs zs, x = .ref l ∧ y = .ref b ∧ Rd H l (.lst xs) ∧ Rd H b (.lst zs) ∧ xs.length + zs.length ≤ sizeLine ∧ ∀ p, H p = none → Q (.ref p) (upd H p (.lst (xs ++ zs)))
theorem op_catR : OpR X (binaryOp .Add) rCatR := by
  intro pins s σ H x y v u Q I rx ry h
  obtain ⟨l, b, xs, zs, rfl, rfl, hH, hB, hz, q⟩ := h
  cases rx
  cases ry
  obtain ⟨z, its, n, r, hl, e⟩ := Inv.lstR I hH
  obtain ⟨z2, its2, n2, r2, hl2, e2⟩ := Inv.lstR I hB
  refine PySem.P.add_list e e2 ?_ (by rw [List.size_toArray, List.size_toArray]; omega)
  have ea : its.toArray ++ its2.toArray = (its ++ its2).toArray := by simp
  rw [ea]
  exact ⟨.ref _, _, I.lnew (t' := s.toks) (r.append r2) (by rw [List.length_append]; omega), rfl, q _ I.fresh⟩
def rCatT0 (K : PySem.W.Frag) : R2 := fun x y H Q => ∃ a b ys, x = .ref a ∧ y = .ref b ∧ SqT K H a [] ∧ SqT K H b ys ∧ Q (.ref b) H
theorem op_catT0 : OpR X (binaryOp .Add) (rCatT0 X.K) := by
  intro pins s σ H x y v u Q I rx ry h
  obtain ⟨a, b, ys, rfl, rfl, ha, hb, q⟩ := h
  cases rx
  cases ry
  obtain ⟨its, r1, p1, _⟩ := I.tuple ha
  obtain ⟨its2, r2, p2, _⟩ := I.tuple hb
  have ei : its = [] := r1.nil_iff.mpr rfl
  subst ei
  obtain ⟨⟨cls, dd, data, sl⟩, ho, hc, n, hd⟩ := id p1
  obtain ⟨⟨cls2, dd2, data2, sl2⟩, ho2, hc2, n2, hd2⟩ := id p2
  simp only at hc hd hc2 hd2
  subst hc hd hc2 hd2
  exact concat_meets ⟨_, ho, rfl⟩ ⟨_, ho2, rfl⟩ noFill_tuple_add seq_tuple_add PySem.F.slot_tuple_add PySem.F.entry_tuple_add (PySem.F.args_tuple_add_2 _ _)
      (tuple_addW0 a b ([] : List Value).toArray its2.toArray n n2 dd dd2 sl sl2 (by simp)) ⟨ho, ho2, ⟨.ref b, H, I, rfl, q⟩⟩
theorem sizeL : sizeLine = big := by rw [sizeLine_eq]; rfl
theorem q_add (ha : PEr X a f) (hb : PEr X b g) : PEv X (.BinOp a .Add b pos) (op2 oAdd f g) :=
  PE_imp (pe_op (op_add.or (op_add_str.or (op_catT0.or (op_catT.or op_catR)))) ha hb) (op2_imp (by
    intro O F H x y t vx vy Q d rx ry e k
    unfold oAdd at e
    split at e
    · cases e
      rw [rx.int, ry.int]
      exact .inl ⟨_, _, rfl, rfl, k _ F H (Ext.refl d) (by simp [Rep])⟩
    · split at e
      next hz =>
        cases e
        rw [rx.str, ry.str]
        exact .inr (.inl ⟨_, _, rfl, rfl, by rw [sizeL]; exact hz, k _ F H (Ext.refl d) (by simp [Rep])⟩)
      next => cases e
    · split at e
      next xs ys hz =>
        cases e
        obtain ⟨ax, vs, rfl, hs, hr⟩ := rx.tup
        obtain ⟨ay, ws, rfl, hs', hr'⟩ := ry.tup
        cases xs with
        | nil =>
          simp only [RepL] at hr
          subst hr
          refine .inr (.inr (.inl ⟨_, _, _, rfl, rfl, hs, hs', k _ F H (Ext.refl d) ?_⟩))
          simp only [Rep]
          exact ⟨_, _, rfl, hs', by simpa using hr'⟩
        | cons x0 xr =>
          refine .inr (.inr (.inr (.inl ⟨_, _, _, _, rfl, rfl, hs, hs', ?_, ?_, fun e0 => ?_, fun e0 p hp => ?_⟩)))
          · intro z
            subst z
            have := hr.length
            simp at this
          · rw [sizeL, ← hr.length, ← hr'.length]
            exact hz
          · refine k _ F H (Ext.refl d) ?_
            subst e0
            have e1 : ys = [] := List.eq_nil_of_length_eq_zero (by rw [hr'.length]; rfl)
            subst e1
            simp only [Rep]
            exact ⟨_, _, rfl, hs, by simpa using hr⟩
          · have x1 := Ext.laid (o := .tup (vs ++ ws)) d hp
            refine k _ F _ x1 ?_
            simp only [Rep]
            exact ⟨p, _, rfl, SqT.of upd_same, (hr.append hr').ext x1⟩
      next => cases e
    · split at e
      next xs ys hz =>
        cases e
        obtain ⟨ax, vs, rfl, hs, hr⟩ := rx.lst
        obtain ⟨ay, ws, rfl, hs', hr'⟩ := ry.lst
        refine .inr (.inr (.inr (.inr ⟨_, _, _, _, rfl, rfl, hs, hs', by rw [sizeL, ← hr.length, ← hr'.length]; exact hz, fun p hp => ?_⟩)))
        have x1 := Ext.laidF (o := .lst (vs ++ ws)) d hp
        refine k _ _ _ x1 ?_
        simp only [Rep]
        exact ⟨p, _, rfl, .inr rfl, .inl upd_same, (hr.append hr').ext x1⟩
      next => cases e
    · cases e))
def rExtendR : V → List V → Hp → VK → Prop := fun x vs H Q => ∃ l b xs zs, x = .ref l ∧ vs = [.ref b] ∧ H l = some (.lst xs) ∧ Rd H b (.lst zs) ∧ xs.length + zs.length ≤ sizeLine ∧ Q .non (upd H l (.lst (xs ++ zs)))
theorem mt_extendR : MtM X "list.extend" rExtendR := by
  intro pins s σ H x vs v us Q I rx rv h
  obtain ⟨l, b, xs, zs, rfl, rfl, hH, hB, hz, q⟩ := h
  cases rx
  obtain ⟨u, rfl, ru⟩ := rv.one
  cases ru
  obtain ⟨z, its, n, r, hl, e⟩ := I.lstM hH
  obtain ⟨z2, its2, n2, r2, hl2, e2⟩ := Inv.lstR I hB
  have hsz : its.toArray.size + its2.toArray.size ≤ sizeLine := by rw [List.size_toArray, List.size_toArray]; omega
  have hlong : ¬ (!its.toArray.isEmpty && Builtin.List.listTooLong (its.toArray.size + its2.toArray.size)) = true := by
    rw [notLongL hsz, Bool.and_false]
    exact Bool.false_ne_true
  refine call_meets F.slot_list_extend ⟨_, e, rfl⟩ F.entry_list_extend (F.args_list_extend_2 _ _)
    (AutoSeq1.list_extend_list_list_0 l its.toArray n b its2.toArray n2 hlong (by rw [List.size_toArray]; omega) (by omega)) ⟨e, e2, ?_⟩
  refine ⟨.non, _, I.lset (its' := its ++ its2) hH e (by simp) (r.append r2) ?_, rfl, q⟩
  rw [List.length_append]
  omega
theorem q_sub (ha : PEr X a f) (hb : PEr X b g) : PEv X (.BinOp a .Sub b pos) (op2 oSub f g) :=
  PE_imp (pe_op op_sub ha hb) (op2_imp (by
    intro O F H x y t vx vy Q d rx ry e k
    unfold oSub at e
    split at e
    · cases e
      rw [rx.int, ry.int]
      exact ⟨_, _, rfl, rfl, k _ F H (Ext.refl d) (by simp [Rep])⟩
    · cases e))
theorem q_mul (ha : PEr X a f) (hb : PEr X b g) : PEv X (.BinOp a .Mult b pos) (op2 oMul f g) :=
  PE_imp (pe_op op_mul ha hb) (op2_imp (by
    intro O F H x y t vx vy Q d rx ry e k
    unfold oMul at e
    split at e
    · split at e
      next hm =>
        cases e
        rw [rx.int, ry.int]
        refine ⟨_, _, rfl, rfl, ?_, k _ F H (Ext.refl d) (by simp [Rep])⟩
        simpa [mulOk, CMul] using hm
      next => cases e
    · cases e))
theorem q_div (ha : PEr X a f) (hb : PEr X b g) : PEv X (.BinOp a .FloorDiv b pos) (op2 oDiv f g) :=
  PE_imp (pe_op op_fdiv ha hb) (op2_imp (by
    intro O F H x y t vx vy Q d rx ry e k
    unfold oDiv at e
    split at e
    · split at e
      next hm =>
        cases e
        rw [rx.int, ry.int]
        exact ⟨_, _, rfl, rfl, hm, k _ F H (Ext.refl d) (by simp [Rep])⟩
      next => cases e
    · cases e))
theorem q_mod (ha : PEr X a f) (hb : PEr X b g) : PEv X (.BinOp a .Mod b pos) (op2 oMod f g) :=
  PE_imp (pe_op op_mod ha hb) (op2_imp (by
    intro O F H x y t vx vy Q d rx ry e k
    unfold oMod at e
    split at e
    · split at e
      next hm =>
        cases e
        rw [rx.int, ry.int]
        exact ⟨_, _, rfl, rfl, hm, k _ F H (Ext.refl d) (by simp [Rep])⟩
      next => cases e
    · cases e))
theorem q_ix (ha : PEr X a f) (hb : PEr X b g) (hs : PlainIx b := by intro _ _; rfl) : PEv X (.Subscript a b pos) (op2 oIx f g) :=
  PE_imp (pe_ix ix_seq ha hb hs) (op2_imp (by
    intro O F H x y t vx vy Q d rx ry e k
    unfold oIx at e
    split at e
    · obtain ⟨ax, vs, rfl, hs, hr⟩ := rx.tup
      rw [ry.int]
      simp only [atZ, Option.bind_eq_some_iff] at e
      obtain ⟨j, hj, et⟩ := e
      obtain ⟨v, hv, rv⟩ := hr.get et
      refine .inr (.inl ⟨_, _, _, v, rfl, rfl, hs, ?_, k _ F H (Ext.refl d) rv⟩)
      rw [hr.length] at hj
      show (ixN _ _).bind _ = _
      rw [show ixN vs.length _ = some j from hj]
      exact hv
    · obtain ⟨ax, vs, rfl, hs, hr⟩ := rx.lst
      rw [ry.int]
      simp only [atZ, Option.bind_eq_some_iff] at e
      obtain ⟨j, hj, et⟩ := e
      obtain ⟨v, hv, rv⟩ := hr.get et
      refine .inl ⟨_, _, _, v, rfl, rfl, .inl hs, ?_, k _ F H (Ext.refl d) rv⟩
      rw [hr.length] at hj
      show (ixN _ _).bind _ = _
      rw [show ixN vs.length _ = some j from hj]
      exact hv
    · split at e
      next hz =>
        rw [rx.str, ry.int]
        simp only [Option.map_eq_some_iff] at e
        obtain ⟨c, hc, rfl⟩ := e
        exact .inr (.inr ⟨_, _, c, rfl, rfl, by rw [sizeL]; exact hz, hc, k _ F H (Ext.refl d) (by simp [Rep])⟩)
      next => cases e
    · cases e))
end
end D
end
section
set_option linter.all false
set_option Elab.async false
set_option maxRecDepth 100000
set_option autoImplicit false
namespace D
open PySem PySem.Spec PyProof.Rows L2

/-! ### statements -/
def DO (K : PySem.W.Frag) (F₀ : Addr → Prop) (H₀ : Hp) (O F : Addr → Prop) (H : Hp) (D : Ends) : Out → Prop
  | .nx ε' => ∀ σ' F' H', Kp K F H F' H' → RelE K F₀ H₀ O F' H' ε' σ' → D.nx σ' H'
  | .rt t => ∀ v F' H', Ext F₀ H₀ F' H' → Rep K F' H' t v → D.rt v H'
  | .bk ε' => ∀ σ' F' H', Kp K F H F' H' → RelE K F₀ H₀ O F' H' ε' σ' → D.bk σ' H'
  | .ct ε' => ∀ σ' F' H', Kp K F H F' H' → RelE K F₀ H₀ O F' H' ε' σ' → D.ct σ' H'
def tS (K : PySem.W.Frag) (g : Fs) : TS := fun D σ H => ∃ F₀ H₀ O F ε o, RelE K F₀ H₀ O F H ε σ ∧ g ε = some o ∧ DO K F₀ H₀ O F H D o
abbrev PSt (X : Cx) (s : Stmt) (g : Fs) : Prop := PS X s (tS X.K g)
abbrev PBt (X : Cx) (s : List Stmt) (g : Fs) : Prop := PSs X s (tS X.K g)
theorem DO.kp {K : PySem.W.Frag} {F₀ O F F1 : Addr → Prop} {H₀ H H1 : Hp} {D : Ends} {o : Out} (h : DO K F₀ H₀ O F H D o) (x : Kp K F H F1 H1) : DO K F₀ H₀ O F1 H1 D o := by
  cases o with
  | nx ε => exact fun σ' F' H' k r => h σ' F' H' (x.trans k) r
  | rt t => exact h
  | bk ε => exact fun σ' F' H' k r => h σ' F' H' (x.trans k) r
  | ct ε => exact fun σ' F' H' k r => h σ' F' H' (x.trans k) r
section
variable {X : Cx} {e a b c : Expr} {f : Fe} {g g' : Fs} {ft : Ft} {st : Stmt} {rest : List Stmt} {pos : Pos}
theorem b_nil : PBt X [] skip := PSs_imp pss_nil fun D σ H ⟨F₀, H₀, O, F, ε, o, r, e, k⟩ => by
  cases e
  exact k σ F H Kp.refl r
theorem b_one (h : PSt X st g) : PBt X [st] g := pss_one h
theorem b_cons (h1 : PSt X st g) (h2 : PBt X rest g') : PBt X (st :: rest) (seq g g') := PSs_imp (pss_cons h1 h2) fun D σ H ⟨F₀, H₀, O, F, ε, o, r, e, k⟩ => by
  simp only [seq, Option.bind_eq_some_iff] at e
  obtain ⟨o1, e1, e2⟩ := e
  refine ⟨F₀, H₀, O, F, ε, o1, r, e1, ?_⟩
  cases o1 with
  | nx ε' => exact fun σ' F' H' x r' => ⟨F₀, H₀, O, F', ε', o, r', e2, k.kp x⟩
  | rt t =>
    cases e2
    exact k
  | bk ε' =>
    cases e2
    exact k
  | ct ε' =>
    cases e2
    exact k
theorem s_ret (h : PEr X e f) : PSt X (.Return (some e) pos) (rtn f) := PS_imp (ps_ret h) fun D σ H ⟨F₀, H₀, O, F, ε, o, r, e, k⟩ => by
  simp only [rtn, Option.map_eq_some_iff] at e
  obtain ⟨t, et, rfl⟩ := e
  refine ⟨F₀, H₀, O, F, ε, t, r, et, fun v F' H' x q => ?_⟩
  rcases q with q | ⟨ts, a, vs, rfl, rfl, h0, ha, q⟩
  · exact k v F' H' (r.ent.trans x) q
  · have x2 := r.ent.trans x
    have y : Ext F₀ H₀ (fun b => F' b ∨ b = a) H' := ⟨x2.same, fun b z => .inl (x2.sub b z), fun b z => by
      rcases z with z | rfl
      · exact x2.new b z
      · exact .inr (r.o0 _ h0), fun b z => by
      rcases z with z | rfl
      · exact x2.dom b z
      · exact ⟨_, ha⟩⟩
    refine k _ _ H' y ?_
    simp only [Rep]
    exact ⟨a, vs, rfl, .inr rfl, .inl ha, q.keep (fun _ _ z => z) fun b _ z w => ⟨.inl z, w⟩⟩
theorem s_if (hc : PTt X c ft) (ha : PBt X rest g) {els : List Stmt} (hb : PBt X els g') : PSt X (.If c rest els pos) (iff ft g g') := PS_imp (ps_if hc ha hb) fun D σ H ⟨F₀, H₀, O, F, ε, o, r, e, k⟩ => by
  simp only [iff, Option.bind_eq_some_iff] at e
  obtain ⟨b, eb, e⟩ := e
  refine ⟨F₀, H₀, O, F, ε, b, r, eb, fun F' H' x => ?_⟩
  cases b with
  | true => exact iteT ⟨F₀, H₀, O, F', ε, o, r.ext x, by simpa using e, k.kp x.kp⟩
  | false => exact iteF ⟨F₀, H₀, O, F', ε, o, r.ext x, by simpa using e, k.kp x.kp⟩
theorem s_asg (i : Nat) {x : Str} {pos' : Pos} (hN : X.N.Nodup) (he : PEv X e f) (hi : X.N[i]? = some x := by rfl) (hx : Loc X.env.scope x := by first | exact Or.inl rfl | exact Or.inr rfl)
    (hs : swapsWith e (some (.Name x pos')) pos.line X.env = pure false := by rfl) (hf : X.fn x = true ∨ X.env.scope.names.lookup x = some .local := by first | exact .inl rfl | exact .inr rfl) :
    PSt X (.Assign [.Name x pos'] e pos) (asg i f) := PS_imp (ps_set hN hi hx he hs hf) fun D σ H ⟨F₀, H₀, O, F, ε, o, r, e, k⟩ => by
  simp only [asg, Option.map_eq_some_iff] at e
  obtain ⟨t, et, rfl⟩ := e
  refine ⟨F₀, H₀, O, F, ε, t, r, et, fun v F' H' x q => ?_⟩
  exact k _ F' H' x.kp ((r.ext x).set i q)
theorem s_asgN (i : Nat) {x : Str} {pos' : Pos} (hN : X.N.Nodup) (he : PEn X e f) (hi : X.N[i]? = some x := by rfl) (hx : Loc X.env.scope x := by first | exact Or.inl rfl | exact Or.inr rfl)
    (hs : swapsWith e (some (.Name x pos')) pos.line X.env = pure false := by rfl) (hf : X.fn x = true ∨ X.env.scope.names.lookup x = some .local := by first | exact .inl rfl | exact .inr rfl) :
    PSt X (.Assign [.Name x pos'] e pos) (asgN i f) := PS_imp (ps_set hN hi hx he hs hf) fun D σ H ⟨F₀, H₀, O, F, ε, o, r, e, k⟩ => by
  simp only [asgN, Option.bind_eq_some_iff] at e
  obtain ⟨t, et, e⟩ := e
  split at e
  next ts =>
    cases e
    refine ⟨F₀, H₀, O, F, ε, ts, r, et, fun a vs F' H' x hn nf ha q => ?_⟩
    refine k _ F' H' x.kp ((r.ext x).setOwn i ⟨a, vs, rfl, nf, r.fr a hn, ha, q⟩ fun j u ej oj hj => ?_)
    · obtain ⟨v, h1, h2⟩ := r.val j u ej
      rw [hj] at h1
      cases h1
      cases u with
      | imm t => cases oj
      | own ts =>
        obtain ⟨a', vs', e1, _, _, eh, _⟩ := h2
        cases e1
        rw [hn] at eh
        cases eh
      | dic ts =>
        obtain ⟨a', vs', e1, _, _, eh, _⟩ := h2
        cases e1
        rw [hn] at eh
        cases eh
  next => cases e

/-! ### targets -/
def tG (K : PySem.W.Frag) (g : Fg) : TG := fun v σ H Q => ∃ F₀ H₀ O F ε t ε', RelE K F₀ H₀ O F H ε σ ∧ Rep K F H t v ∧ g t ε = some ε' ∧ ∀ σ', RelE K F₀ H₀ O F H ε' σ' → Q σ' H
def tGs (K : PySem.W.Frag) (gs : List Fg) : TGs := fun vs σ H Q => ∃ F₀ H₀ O F ε ts ε', RelE K F₀ H₀ O F H ε σ ∧ RepL K F H ts vs ∧ gAll gs ts ε = some ε' ∧ ∀ σ', RelE K F₀ H₀ O F H ε' σ' → Q σ' H
abbrev PGt (X : Cx) (e : Expr) (g : Fg) : Prop := PG X e (tG X.K g)
abbrev PGst (X : Cx) (es : List Expr) (gs : List Fg) : Prop := PGs X es (tGs X.K gs)
theorem PG_imp {X : Cx} {e : Expr} {t t' : TG} (h : PG X e t) (k : ∀ v σ H Q, t' v σ H Q → t v σ H Q) : PG X e t' := fun pins s σ H v u Q I r q => h pins s σ H v u Q I r (k v σ H Q q)
theorem PGs_imp {X : Cx} {e : List Expr} {t t' : TGs} (h : PGs X e t) (k : ∀ v σ H Q, t' v σ H Q → t v σ H Q) : PGs X e t' := fun pins s σ H v u Q I r q => h pins s σ H v u Q I r (k v σ H Q q)
theorem g_nm (i : Nat) {x : Str} (hN : X.N.Nodup) (hi : X.N[i]? = some x := by rfl) (hx : Loc X.env.scope x := by first | exact Or.inl rfl | exact Or.inr rfl)
    (hf : X.fn x = true ∨ X.env.scope.names.lookup x = some .local := by first | exact .inl rfl | exact .inr rfl) : PGt X (.Name x pos) (gNm i) := PG_imp (pg_name hN hi hx hf) fun v σ H Q ⟨F₀, H₀, O, F, ε, t, ε', r, q, e, k⟩ => by
  cases e
  exact k _ (r.set i q)
theorem g_nil : PGst X [] [] := PGs_imp pgs_nil fun vs σ H Q ⟨F₀, H₀, O, F, ε, ts, ε', r, q, e, k⟩ => by
  cases ts with
  | nil =>
    cases e
    simp only [RepL] at q
    exact ⟨q, k σ r⟩
  | cons t ts => cases e
theorem g_cons {es : List Expr} {g : Fg} {gs : List Fg} (h1 : PGt X e g) (h2 : PGst X es gs) (hs : (assignEach (e :: es) X.env).map (·.2) = assign e X.env :: (assignEach es X.env).map (·.2) := by rfl) : PGst X (e :: es) (g :: gs) :=
  PGs_imp (pgs_cons h1 h2 hs) fun vs σ H Q ⟨F₀, H₀, O, F, ε, ts, ε', r, q, e, k⟩ => by
  cases ts with
  | nil => cases e
  | cons t ts =>
    simp only [gAll, Option.bind_eq_some_iff] at e
    obtain ⟨ε1, e1, e2⟩ := e
    simp only [RepL] at q
    obtain ⟨v, vr, rfl, q1, q2⟩ := q
    exact ⟨v, vr, rfl, F₀, H₀, O, F, ε, t, ε1, r, q1, e1, fun σ1 r1 => ⟨F₀, H₀, O, F, ε1, ts, ε', r1, q2, e2, k⟩⟩
theorem gAll_len : ∀ {gs : List Fg} {ts : List T} {ε ε' : Ev}, gAll gs ts ε = some ε' → ts.length = gs.length
  | [], [], _, _, _ => rfl
  | [], _ :: _, _, _, h => by cases h
  | _ :: _, [], _, _, h => by cases h
  | g :: gs, t :: ts, ε, ε', h => by
    simp only [gAll, Option.bind_eq_some_iff] at h
    obtain ⟨ε1, _, h⟩ := h
    simp [gAll_len h]
theorem g_tup {es : List Expr} {k : Nat} {gs : List Fg} (h : PGst X es gs) (hc : X.calm = true := by rfl) (hn : (assignEach es X.env).length = gs.length := by rfl) (hst : (assignEach es X.env).findIdx? (·.1) = none := by rfl) :
    PGt X (.Tuple es k pos) (gTu gs) := PG_imp (pg_tup hc h hn hst) fun v σ H Q ⟨F₀, H₀, O, F, ε, t, ε', r, q, e, k⟩ => by
  unfold gTu at e
  split at e
  next ts =>
    simp only [Rep] at q
    obtain ⟨a, vs, rfl, hs, hr⟩ := q
    exact ⟨a, vs, rfl, hs, by rw [← hr.length]; exact gAll_len e, F₀, H₀, O, F, ε, ts, ε', r, hr, e, k⟩
  next => cases e
/-! ### what is walked -/
structure ItOk (K : PySem.W.Frag) (J : It) (F1 : Addr → Prop) (H1 : Hp) (ts : List T) : Prop where
  go : ∀ i F H t, Kp K F1 H1 F H → (∀ a, F a → ∃ o, H a = some o) → ts[i]? = some t → J.go i H
  yld : ∀ i F H t x H', Kp K F1 H1 F H → (∀ a, F a → ∃ o, H a = some o) → ts[i]? = some t → J.yld i H x H' → ∃ F', Ext F H F' H' ∧ Rep K F' H' t x
  stop : ∀ i F H, Kp K F1 H1 F H → ts.length ≤ i → J.stop i H
def tI (K : PySem.W.Frag) (f : Fi) : TI := fun σ H R => ∃ F₀ H₀ O F ε ts, RelE K F₀ H₀ O F H ε σ ∧ f ε = some ts ∧ ∀ J F' H', Ext F H F' H' → ItOk K J F' H' ts → R J H'
abbrev PIt (X : Cx) (tg e : Expr) (f : Fi) : Prop := PI X tg e (tI X.K f)
theorem PI_imp {X : Cx} {tg e : Expr} {t t' : TI} (h : PI X tg e t) (k : ∀ σ H R, t' σ H R → t σ H R) : PI X tg e t' := fun pins s σ H R I q => h pins s σ H R I (k σ H R q)
theorem itOk_list {K : PySem.W.Frag} {a : Addr} {F1 : Addr → Prop} {H1 : Hp} {ts : List T} {vs : List V} (fa : F1 a) (hr : Rd H1 a (.lst vs)) (q : RepL K F1 H1 ts vs) : ItOk K (Itl K a) F1 H1 ts where
  go := fun i F H t kp d e => by
    obtain ⟨v, h1, _⟩ := q.get e
    exact ⟨vs, v, .inl (kp.lst _ _ fa hr).2, h1⟩
  yld := fun i F H t x H' kp d e y => by
    obtain ⟨rfl, y⟩ := y
    obtain ⟨v, h1, h2⟩ := (q.kp kp).get e
    have := y vs (.inl (kp.lst _ _ fa hr).2)
    rw [h1] at this
    cases this
    exact ⟨F, Ext.refl d, h2⟩
  stop := fun i F H kp hl => ⟨vs, .inl (kp.lst _ _ fa hr).2, by rw [← q.length]; exact hl⟩
theorem itOk_tup {K : PySem.W.Frag} {a : Addr} {F1 : Addr → Prop} {H1 : Hp} {ts : List T} {vs : List V} (hr : SqT K H1 a vs) (q : RepL K F1 H1 ts vs) : ItOk K (Itt K a) F1 H1 ts where
  go := fun i F H t kp d e => by
    obtain ⟨v, h1, _⟩ := q.get e
    exact ⟨vs, v, kp.tup _ _ hr, h1⟩
  yld := fun i F H t x H' kp d e y => by
    obtain ⟨rfl, y⟩ := y
    obtain ⟨v, h1, h2⟩ := (q.kp kp).get e
    have := y vs (kp.tup _ _ hr)
    rw [h1] at this
    cases this
    exact ⟨F, Ext.refl d, h2⟩
  stop := fun i F H kp hl => ⟨vs, kp.tup _ _ hr, by rw [← q.length]; exact hl⟩
theorem rng_len (lo hi : Int) : (rng lo hi).length = (hi - lo).toNat := by simp [rng]
theorem itOk_rng {K : PySem.W.Frag} {F1 : Addr → Prop} {H1 : Hp} (lo hi : Int) : ItOk K (Itr lo (hi - lo).toNat) F1 H1 (rng lo hi) where
  go := fun i F H t kp d e => by
    have h := (List.getElem?_eq_some_iff.mp e).1
    rw [rng_len] at h
    exact h
  yld := fun i F H t x H' kp d e y => by
    obtain ⟨rfl, rfl⟩ := y
    refine ⟨F, Ext.refl d, ?_⟩
    have h := (List.getElem?_eq_some_iff.mp e).1
    rw [rng_len] at h
    unfold rng at e
    rw [List.getElem?_map, List.getElem?_range h] at e
    simp at e
    subst e
    simp [Rep]
  stop := fun i F H kp hl => by
    rw [rng_len] at hl
    exact hl
/-- a tuple or a list -/
def iSq (K : PySem.W.Frag) (tl : TE) : TI := fun σ H R => tl σ H fun x H1 => ∃ a, x = .ref a ∧ (((∃ xs, SqL K H1 a xs) ∧ R (Itl K a) H1) ∨ ((∃ xs, SqT K H1 a xs) ∧ R (Itt K a) H1))
theorem pi_sq {tg l : Expr} {tl : TE} (hl : PE X l tl) : PI X tg l (iSq X.K tl) := by
  intro pins s σ H R I h
  refine thn (hl pins s σ H _ I h) fun v s1 ⟨x, H1, I1, r1, a, e1, q⟩ => ?_
  subst e1
  cases r1
  have fp : ∀ b ∈ [s1.heap.objs.size], FpOk X pins H1 b := fun b hb => by
    have e : b = s1.heap.objs.size := by simpa using hb
    subst e
    exact I1.fpOk (Nat.le_refl _) (I1.hok.fresh (Nat.le_refl _))
  rcases q with ⟨⟨xs, hq⟩, q⟩ | ⟨⟨xs, hq⟩, q⟩
  · obtain ⟨its, rv, p, hz⟩ := I1.list hq
    refine wpAny_pyIter_list p.isList ?_
    exact ⟨s1.heap.objs.size, [s1.heap.objs.size], _, _, H1, rfl, I1.kept (t' := s1.toks) fun b o e => Heap.get?_push_of_some _ e, turn_list a _, ⟨_, Heap.get?_push_size _ rfl, rfl, rfl⟩, fp, q⟩
  · obtain ⟨its, rv, p, hz⟩ := I1.tuple hq
    refine wpAny_pyIter_tuple (show s1.heap.IsTuple a its.toArray from p) ?_
    exact ⟨s1.heap.objs.size, [s1.heap.objs.size], _, _, H1, rfl, I1.kept (t' := s1.toks) fun b o e => Heap.get?_push_of_some _ e, turn_tuple a _, ⟨_, Heap.get?_push_size _ rfl, rfl, rfl⟩, fp, q⟩
theorem i_seq {tg l : Expr} {f : Fe} (hl : PEv X l f) : PIt X tg l (itSeq f) := PI_imp (pi_sq hl) fun σ H R ⟨F₀, H₀, O, F, ε, ts, r, e, k⟩ => by
  simp only [itSeq, Option.bind_eq_some_iff] at e
  obtain ⟨t, et, e⟩ := e
  split at e
  · cases e
    refine ⟨F₀, H₀, O, F, ε, _, r, et, fun v F' H' x q => ?_⟩
    simp only [Rep] at q
    obtain ⟨a, vs, rfl, hs, hr⟩ := q
    exact ⟨a, rfl, .inr ⟨⟨vs, hs⟩, k _ F' H' x (itOk_tup hs hr)⟩⟩
  · cases e
    refine ⟨F₀, H₀, O, F, ε, _, r, et, fun v F' H' x q => ?_⟩
    simp only [Rep] at q
    obtain ⟨a, vs, rfl, fa, hs, hr⟩ := q
    exact ⟨a, rfl, .inl ⟨⟨vs, .inl hs⟩, k _ F' H' x (itOk_list fa hs hr)⟩⟩
  · cases e
theorem i_rng1 {tg a : Expr} {f : Fe} {p pos : Pos} (hm : X.mg "range" = none) (ha : PEr X a f) (hg : Gl X "range" := by rfl) (hs : starEach [a] X.env = [(false, eval a X.env)] := by rfl) (hs2 : starEach [a] X.env = (false, eval a X.env) :: starEach [] X.env := by rfl) :
    PIt X tg (.Call (.Name "range" p) [a] [] pos) (itRng1 f) := PI_imp (pi_range1 hg hm (pa_cons ha pa_nil hs2) hs) fun σ H R ⟨F₀, H₀, O, F, ε, ts, r, e, k⟩ => by
  simp only [itRng1, Option.bind_eq_some_iff] at e
  obtain ⟨t, et, e⟩ := e
  split at e
  next j =>
    split at e
    next hz =>
      cases e
      refine ⟨F₀, H₀, O, F, ε, _, r, et, fun v F' H' x q => ⟨j, by rw [q.int], ?_, ?_, k _ F' H' x (by simpa using itOk_rng 0 j)⟩⟩
      · simp [small62] at hz
        omega
      · simp [small62] at hz
        omega
    next => cases e
  next => cases e
/-! ### loops -/
theorem s_for {tg iter : Expr} {body : List Stmt} {it : Fi} {gg : Fg} {bb : Fs} (hp : PassesOwn (model X.prog X.w) X.A X.env X.xe) (hi : PIt X tg iter it) (hg : PGt X tg gg) (hb : PBt X body bb) (hc : X.calm = true := by rfl)
    (hs : ∀ x, foldedSetIterable iter X.env x = pure x := by intro _; rfl) : PSt X (.For tg iter body [] pos) (for_ it gg bb) := PS_imp (ps_for hp hc hi hg hb hs) fun D σ H ⟨F₀, H₀, O, F, ε, o, r, e, k⟩ => by
  simp only [for_, Option.bind_eq_some_iff] at e
  obtain ⟨ts, et, e⟩ := e
  refine ⟨F₀, H₀, O, F, ε, ts, r, et, fun J F1 H1 x1 ok => ?_⟩
  refine ⟨fun i m σ' H' => m = ts.length - i ∧ i ≤ ts.length ∧ ∃ F' ε' , Kp X.K F1 H1 F' H' ∧ RelE X.K F₀ H₀ O F' H' ε' σ' ∧ forL gg bb (ts.drop i) ε' = some o, ⟨_, rfl, Nat.zero_le _, F1, ε, Kp.refl, r.ext x1, by simpa using e⟩, ?_⟩
  rintro i m σ' H' ⟨rfl, hi', F', ε', kp, r', e'⟩
  by_cases hlt : i < ts.length
  · have hd : ts.drop i = ts[i] :: ts.drop (i + 1) := List.drop_eq_getElem_cons hlt
    have hg' : ts[i]? = some ts[i] := List.getElem?_eq_getElem hlt
    rw [hd] at e'
    simp only [forL, Option.bind_eq_some_iff] at e'
    obtain ⟨ε1, eg, o1, eb, e'⟩ := e'
    refine .inr ⟨ok.go i F' H' _ kp r'.dom hg', fun σ2 H2 => ∃ m', m' < ts.length - i ∧ (m' = ts.length - (i + 1) ∧ i + 1 ≤ ts.length ∧ ∃ F2 ε2, Kp X.K F1 H1 F2 H2 ∧ RelE X.K F₀ H₀ O F2 H2 ε2 σ2 ∧ forL gg bb (ts.drop (i + 1)) ε2 = some o), fun _ _ z => z, fun x H2 y => ?_⟩
    obtain ⟨F2, x2, rx⟩ := ok.yld i F' H' _ x H2 kp r'.dom hg' y
    refine ⟨F₀, H₀, O, F2, ε', _, ε1, r'.ext x2, rx, eg, fun σ3 r3 => ⟨F₀, H₀, O, F2, ε1, o1, r3, eb, ?_⟩⟩
    have kp2 : Kp X.K F1 H1 F2 H2 := kp.trans x2.kp
    cases o1 with
    | nx ε2 => exact fun σ4 F4 H4 k4 r4 => ⟨_, by omega, rfl, hlt, F4, ε2, kp2.trans k4, r4, e'⟩
    | ct ε2 => exact fun σ4 F4 H4 k4 r4 => ⟨_, by omega, rfl, hlt, F4, ε2, kp2.trans k4, r4, e'⟩
    | bk ε2 =>
      cases e'
      exact fun σ4 F4 H4 k4 r4 => k σ4 F4 H4 ((x1.kp.trans kp2).trans k4) r4
    | rt t =>
      cases e'
      exact k
  · have hd : ts.drop i = [] := List.drop_eq_nil_of_le (by omega)
    rw [hd] at e'
    cases e'
    exact .inl ⟨ok.stop i F' H' kp (by omega), k σ' F' H' (x1.kp.trans kp) r'⟩
/-! ### xs.append(e), xs.extend(e), x = xs.pop() -/
/-- an own list's name, for a change -/
def tOwn (K : PySem.W.Frag) (i : Nat) : TE := fun σ H Q => ∃ v, σ[i]? = some (some v) ∧ Q v H
theorem s_app (i : Nat) {x : Str} {px apos cpos : Pos} (he : PEv X e f) (hN : X.N[i]? = some x := by rfl) (hv : Vis X.env.scope x := by first | exact Or.inl rfl | exact Or.inr (Or.inl rfl) | exact Or.inr (Or.inr rfl)) (hd : (x == ("__debug__" : Str)) = false := by decide)
    (hcd : (x == ("__classdict__" : Str)) = false := by decide) (hs1 : starEach [e] X.env = (false, eval e X.env) :: starEach [] X.env := by rfl)
    (hbase : attributeBase (.Name x px) "append" X.env (eval (.Name x px) X.env) = eval (.Name x px) X.env := by rfl)
    (hfew : ((backTo cpos (starEach [e] X.env)).all (fun x => !x.1) && (backToKw cpos (keywordEach [] X.env)).all (fun x => x.1.isSome)
      && decide (([e] : List Expr).length + ([] : List Keyword).length + (if ([] : List Keyword).isEmpty then 0 else 1) < 30)) = true := by rfl)
    (hline : (apos.endLine == cpos.line) = true := by rfl) (hplain : (backTo cpos (starEach [] X.env)).any (·.1) = false := by rfl)
    (hsw : swapsWith (.Call (.Attribute (.Name x px) "append" apos) [e] [] cpos) none pos.line X.env = pure false := by rfl) :
    PSt X (.Expr (.Call (.Attribute (.Name x px) "append" apos) [e] [] cpos) pos) (app i f) :=
  PS_imp (ps_expr (pe_bm PySem.F.plainAttrs_list PySem.F.slot_list_append PySem.F.type_list_append mt_append (pv i hN hv hd hcd) (pa_cons he pa_nil hs1) hbase hfew hline hs1 hplain) hsw) fun D σ H ⟨F₀, H₀, O, F, ε, o, r, e, k⟩ => by
  unfold app at e
  split at e
  next ts he =>
    simp only [Option.bind_eq_some_iff] at e
    obtain ⟨t, et, e⟩ := e
    split at e
    next hz =>
      cases e
      obtain ⟨v, h1, a, vs, rfl, n, h0, hh, hr⟩ := r.val _ _ he
      refine ⟨_, h1, .inl ⟨rfl, _, SqL.of hh⟩, F₀, H₀, O, F, ε, t, r, et, fun v F' H' x q => ?_⟩
      have r1 := r.ext x
      obtain ⟨v1, h1', a1, vs1, e1, n1, h01, hh1, hr1⟩ := r1.val _ _ he
      rw [h1] at h1'
      cases h1'
      cases e1
      refine ⟨a, vs1, v, rfl, rfl, hh1, by rw [sizeL, ← hr1.length]; exact hz, ?_⟩
      obtain ⟨kp, r2⟩ := r1.mut (s' := .own (ts ++ [t])) (o' := .lst (vs1 ++ [v])) he rfl h1 n1 h0 hh1 (.inl ⟨_, rfl⟩) fun kp => ⟨a, _, rfl, n1, h0, upd_same, (hr1.kp kp).append (RepL.cons (q.kp kp) RepL.nil)⟩
      exact k σ F' _ (x.kp.trans kp) r2
    next => cases e
  next => cases e
theorem s_ext (i : Nat) {x : Str} {px apos cpos : Pos} (he : PEr X e f) (hN : X.N[i]? = some x := by rfl) (hv : Vis X.env.scope x := by first | exact Or.inl rfl | exact Or.inr (Or.inl rfl) | exact Or.inr (Or.inr rfl)) (hd : (x == ("__debug__" : Str)) = false := by decide)
    (hcd : (x == ("__classdict__" : Str)) = false := by decide) (hs1 : starEach [e] X.env = (false, eval e X.env) :: starEach [] X.env := by rfl)
    (hbase : attributeBase (.Name x px) "extend" X.env (eval (.Name x px) X.env) = eval (.Name x px) X.env := by rfl)
    (hfew : ((backTo cpos (starEach [e] X.env)).all (fun x => !x.1) && (backToKw cpos (keywordEach [] X.env)).all (fun x => x.1.isSome)
      && decide (([e] : List Expr).length + ([] : List Keyword).length + (if ([] : List Keyword).isEmpty then 0 else 1) < 30)) = true := by rfl)
    (hline : (apos.endLine == cpos.line) = true := by rfl) (hplain : (backTo cpos (starEach [] X.env)).any (·.1) = false := by rfl)
    (hsw : swapsWith (.Call (.Attribute (.Name x px) "extend" apos) [e] [] cpos) none pos.line X.env = pure false := by rfl) :
    PSt X (.Expr (.Call (.Attribute (.Name x px) "extend" apos) [e] [] cpos) pos) (ext i f) :=
  PS_imp (ps_expr (pe_bm PySem.F.plainAttrs_list PySem.F.slot_list_extend PySem.F.type_list_extend mt_extendR (pv i hN hv hd hcd) (pa_cons he pa_nil hs1) hbase hfew hline hs1 hplain) hsw) fun D σ H ⟨F₀, H₀, O, F, ε, o, r, e, k⟩ => by
  unfold ext at e
  split at e
  next ts he =>
    simp only [Option.bind_eq_some_iff] at e
    obtain ⟨t, et, e⟩ := e
    split at e
    next us =>
      split at e
      next hz =>
        cases e
        obtain ⟨v, h1, a, vs, rfl, n, h0, hh, hr⟩ := r.val _ _ he
        refine ⟨_, h1, .inl ⟨rfl, _, SqL.of hh⟩, F₀, H₀, O, F, ε, _, r, et, fun v F' H' x q => ?_⟩
        obtain ⟨b, ws, rfl, hb, hw⟩ := q.lst
        have r1 := r.ext x
        obtain ⟨v1, h1', a1, vs1, e1, n1, h01, hh1, hr1⟩ := r1.val _ _ he
        rw [h1] at h1'
        cases h1'
        cases e1
        refine ⟨a, b, vs1, ws, rfl, rfl, hh1, hb, by rw [sizeL, ← hr1.length, ← hw.length]; exact hz, ?_⟩
        obtain ⟨kp, r2⟩ := r1.mut (s' := .own (ts ++ us)) (o' := .lst (vs1 ++ ws)) he rfl h1 n1 h0 hh1 (.inl ⟨_, rfl⟩) fun kp => ⟨a, _, rfl, n1, h0, upd_same, (hr1.kp kp).append (hw.kp kp)⟩
        exact k σ F' _ (x.kp.trans kp) r2
      next => cases e
    next => cases e
  next => cases e
end
end D
end
section
set_option linter.all false
set_option Elab.async false
set_option maxRecDepth 100000
set_option autoImplicit false
namespace D
open PySem PySem.Spec PyProof.Rows L2
section
variable {X : Cx} {a b c e : Expr} {es : List Expr} {f g h : Fe} {fs : List Fe} {ft gt : Ft} {pos p : Pos}

/-! ### argument lists -/
theorem a_nilR : PAr X [] [] := PA_imp pa_nil fun σ H Q ⟨F₀, H₀, O, F, ε, ts, r, e, k⟩ => by
  cases e
  exact k [] F H (Ext.refl r.dom) .nil
theorem a_consR (ha : PEr X e f) (hr : PAr X es fs) (hs : starEach (e :: es) X.env = (false, eval e X.env) :: starEach es X.env := by rfl) : PAr X (e :: es) (f :: fs) := PA_imp (pa_cons ha hr hs) fun σ H Q ⟨F₀, H₀, O, F, ε, ts, r, e, k⟩ => by
  simp only [args, Option.bind_eq_some_iff, Option.map_eq_some_iff] at e
  obtain ⟨t, et, us, eu, rfl⟩ := e
  refine ⟨F₀, H₀, O, F, ε, t, r, et, fun v F1 H1 x1 q1 => ⟨F₀, H₀, O, F1, ε, us, r.ext x1, eu, fun vs F2 H2 x2 q2 => ?_⟩⟩
  exact k _ F2 H2 (x1.trans x2) (.cons (q1.ext x2) q2)
theorem a_nilV : PAv X [] [] := PA_imp pa_nil fun σ H Q ⟨F₀, H₀, O, F, ε, ts, r, e, k⟩ => by
  cases e
  exact k [] F H (Ext.refl r.dom) RepL.nil
theorem a_consV (ha : PEv X e f) (hr : PAv X es fs) (hs : starEach (e :: es) X.env = (false, eval e X.env) :: starEach es X.env := by rfl) : PAv X (e :: es) (f :: fs) := PA_imp (pa_cons ha hr hs) fun σ H Q ⟨F₀, H₀, O, F, ε, ts, r, e, k⟩ => by
  simp only [args, Option.bind_eq_some_iff, Option.map_eq_some_iff] at e
  obtain ⟨t, et, us, eu, rfl⟩ := e
  refine ⟨F₀, H₀, O, F, ε, t, r, et, fun v F1 H1 x1 q1 => ⟨F₀, H₀, O, F1, ε, us, r.ext x1, eu, fun vs F2 H2 x2 q2 => ?_⟩⟩
  exact k _ F2 H2 (x1.trans x2) (RepL.cons (q1.ext x2) q2)
theorem q_tup {x1} (h : PAv X es fs) : PEv X (.Tuple es x1 pos) (mkTup fs) := PE_imp (pe_tup h) fun σ H Q ⟨F₀, H₀, O, F, ε, t, r, e, k⟩ => by
  simp only [mkTup, Option.bind_eq_some_iff] at e
  obtain ⟨ts, et, e⟩ := e
  split at e
  next hz =>
    cases e
    refine ⟨F₀, H₀, O, F, ε, ts, r, et, fun vs F1 H1 x1 q1 => ⟨by rw [sizeL, ← q1.length]; exact hz, fun p hp => ?_⟩⟩
    have x2 := Ext.laid (o := .tup vs) x1.dom hp
    refine k _ F1 _ (x1.trans x2) ?_
    simp only [Rep]
    exact ⟨p, vs, rfl, SqT.of upd_same, q1.ext x2⟩
  next => cases e
theorem q_lst (h : PAv X es fs) : PEn X (.List es pos) (mkLst fs) := PE_imp (pe_lst h) fun σ H Q ⟨F₀, H₀, O, F, ε, us, r, e, k⟩ => by
  simp only [mkLst, Option.bind_eq_some_iff] at e
  obtain ⟨ts, et, e⟩ := e
  split at e
  next hz =>
    cases e
    refine ⟨F₀, H₀, O, F, ε, _, r, et, fun vs F1 H1 x1 q1 => ⟨by rw [sizeL, ← q1.length]; exact hz, fun p hp => ?_⟩⟩
    have x2 := Ext.laid (o := .lst vs) x1.dom hp
    refine k p vs F1 _ (x1.trans x2) ?_ ?_ upd_same (q1.ext x2)
    · cases z : H p with
      | none => rfl
      | some w =>
        rw [x1.same p w z] at hp
        cases hp
    · intro fp
      obtain ⟨o, eo⟩ := x1.dom p fp
      rw [hp] at eo
      cases eo
  next => cases e
theorem q_lstV (h : PAv X es fs) : PEv X (.List es pos) (mkLst fs) := n2v (q_lst h) fun ε t e => by
  simp only [mkLst, Option.bind_eq_some_iff] at e
  obtain ⟨ts, et, e⟩ := e
  split at e
  · cases e
    exact ⟨_, rfl⟩
  · cases e

/-! ### a tree as the library reads it -/
mutual
theorem reads_of {F : Addr → Prop} {pins : List (Addr × Obj)} {σ : L2.St} {H : Hp} {s : Shared} (I : Inv X pins σ H s) : ∀ {t : T} {v : V} {u : Value}, Rep X.K F H t v → RelV v u → ∃ as, Reads s.heap u t as
  | .none, v, u, h, r => by
    simp only [Rep] at h
    subst h
    cases r
    exact ⟨_, .none⟩
  | .bool b, v, u, h, r => by
    simp only [Rep] at h
    subst h
    cases r
    exact ⟨_, .bool b⟩
  | .int i, v, u, h, r => by
    simp only [Rep] at h
    subst h
    obtain ⟨t, rfl⟩ := r
    exact ⟨_, .int i t⟩
  | .str x, v, u, h, r => by
    simp only [Rep] at h
    subst h
    obtain ⟨t, rfl⟩ := r
    exact ⟨_, .str x t⟩
  | .dict _, v, u, h, r => by simp [Rep] at h
  | .tuple ts, v, u, h, r => by
    simp only [Rep] at h
    obtain ⟨a, vs, rfl, hs, hr⟩ := h
    cases r
    obtain ⟨its, rv, ⟨o, h1, h2, n, h3⟩, hz⟩ := I.tuple hs
    obtain ⟨as, ra⟩ := readsL_of I hr rv
    exact ⟨_, .tuple h1 h2 h3 (by simpa using ra)⟩
  | .list ts, v, u, h, r => by
    simp only [Rep] at h
    obtain ⟨a, vs, rfl, fa, hs, hr⟩ := h
    cases r
    obtain ⟨z, its, n, rv, hl, e⟩ := Inv.lstR I hs
    obtain ⟨as, ra⟩ := readsL_of I hr rv
    exact ⟨_, .list e rfl rfl (by simpa using ra)⟩
theorem readsL_of {F : Addr → Prop} {pins : List (Addr × Obj)} {σ : L2.St} {H : Hp} {s : Shared} (I : Inv X pins σ H s) : ∀ {ts : List T} {vs : List V} {us : List Value}, RepL X.K F H ts vs → Vals vs us → ∃ as, ReadsAll s.heap us ts as
  | [], vs, us, h, r => by
    simp only [RepL] at h
    subst h
    cases r
    exact ⟨_, .nil⟩
  | t :: ts, vs, us, h, r => by
    simp only [RepL] at h
    obtain ⟨v, vr, rfl, h1, h2⟩ := h
    cases r with
    | cons r1 r2 =>
      obtain ⟨as, q1⟩ := reads_of I h1 r1
      obtain ⟨bs, q2⟩ := readsL_of I h2 r2
      exact ⟨_, .cons q1 q2⟩
end
theorem readsR_of {O F : Addr → Prop} {pins : List (Addr × Obj)} {σ : L2.St} {H : Hp} {s : Shared} (I : Inv X pins σ H s) {t : T} {v : V} {u : Value} (h : RepR X.K O F H t v) (r : RelV v u) : ∃ as, Reads s.heap u t as := by
  rcases h with h | ⟨ts, a, vs, rfl, rfl, h0, ha, h⟩
  · exact reads_of I h r
  · cases r
    obtain ⟨z, its, n, rv, hl, e⟩ := Inv.lstR I (.inl ha)
    obtain ⟨as, ra⟩ := readsL_of I h rv
    exact ⟨_, .list e rfl rfl (by simpa using ra)⟩
theorem okT_ok {t : T} (h : okT t = true) : t.canLay0 = true ∧ t.depth ≤ 60 := by
  simp only [okT, Bool.and_eq_true, decide_eq_true_eq] at h
  exact h
theorem okL_ok {t : List T} (h : okL t = true) : PyData.canLayAll0 t = true ∧ PyData.depthAll t ≤ 60 := by
  simp only [okL, Bool.and_eq_true, decide_eq_true_eq] at h
  exact h
def rCmpT (K : PySem.W.Frag) (n : Bool) : R2 := fun x y H Q => ∃ (O F : Addr → Prop) (s t : T), RepR K O F H s x ∧ RepR K O F H t y ∧ okT s = true ∧ okT t = true ∧ Q (.bl (if n then !PyData.eqv s t else PyData.eqv s t)) H
theorem op_eqT (hu : X.A.units + 64 < cLine) : OpR X (compareOp .Eq) (rCmpT X.K false) := by
  intro pins s σ H x y v u Q I rx ry ⟨O, F, d, t, h1, h2, o1, o2, q⟩
  obtain ⟨as, ra⟩ := readsR_of I h1 rx
  obtain ⟨bs, rb⟩ := readsR_of I h2 ry
  obtain ⟨c1, l1⟩ := okT_ok o1
  obtain ⟨c2, l2⟩ := okT_ok o2
  refine SeqAt.compareEq_reads ra rb c1 c2 (by have := Nat.min_le_left d.depth t.depth; omega) ?_
  exact ⟨.bl _, H, I, rfl, q⟩
theorem op_neT (hu : X.A.units + 64 < cLine) : OpR X (compareOp .NotEq) (rCmpT X.K true) := by
  intro pins s σ H x y v u Q I rx ry ⟨O, F, d, t, h1, h2, o1, o2, q⟩
  obtain ⟨as, ra⟩ := readsR_of I h1 rx
  obtain ⟨bs, rb⟩ := readsR_of I h2 ry
  obtain ⟨c1, l1⟩ := okT_ok o1
  obtain ⟨c2, l2⟩ := okT_ok o2
  refine SeqAt.compareNe_reads ra rb c1 c2 (by have := Nat.min_le_left d.depth t.depth; omega) ?_
  exact ⟨.bl _, H, I, rfl, q⟩
theorem q_cmp {op : CmpOp} {R : R2} {o : T → T → Option T} (ho : OpR X (compareOp op) R) (h2 : Op2 X.K o R) (ha : PEr X a f) (hb : PEr X b g) (hm : behindInMarks op b = false := by first | exact nomark _ | rfl) : PEv X (.Compare a [op] [b] pos) (op2 o f g) := PE_imp (pe_cmpR ho ha hb hm) (op2_imp h2)
theorem t_cmp {op : CmpOp} {R : R2} {o : T → T → Option T} (ho : OpR X (compareOp op) R) (h2 : Op2 X.K o R) (ha : PEr X a f) (hb : PEr X b g) (hm : behindInMarks op b = false := by first | exact nomark _ | rfl) : PTt X (.Compare a [op] [b] pos) (tstB (op2 o f g)) :=
  PT_imp (pt_cmpR ho ha hb hm) fun σ H Q ⟨F₀, H₀, O, F, ε, b, r, e, k⟩ => by
  simp only [tstB, Option.bind_eq_some_iff] at e
  obtain ⟨t, et, e⟩ := e
  split at e
  · cases e
    refine op2_imp h2 σ H _ ⟨F₀, H₀, O, F, ε, _, r, et, fun v F' H' x q => ?_⟩
    simp only [Rep] at q
    exact ⟨_, q, k F' H' x⟩
  · cases e
theorem op2_eq : Op2 X.K oEq (rCmpT X.K false) := by
    intro O F H x y t vx vy Q d rx ry e k
    unfold oEq at e
    split at e
    next hz =>
      cases e
      rw [Bool.and_eq_true] at hz
      exact ⟨O, F, x, y, rx, ry, hz.1, hz.2, k _ F H (Ext.refl d) (by simp [Rep])⟩
    next => cases e
theorem op2_ne : Op2 X.K oNe (rCmpT X.K true) := by
    intro O F H x y t vx vy Q d rx ry e k
    unfold oNe at e
    split at e
    next hz =>
      cases e
      rw [Bool.and_eq_true] at hz
      exact ⟨O, F, x, y, rx, ry, hz.1, hz.2, k _ F H (Ext.refl d) (by simp [Rep])⟩
    next => cases e
def rInT (K : PySem.W.Frag) (n : Bool) : R2 := fun x y H Q => ∃ (O F : Addr → Prop) (s : T) (ts : List T), RepR K O F H s x ∧ (RepR K O F H (.tuple ts) y ∨ RepR K O F H (.list ts) y) ∧ okT s = true ∧ okL ts = true ∧ Q (.bl (if n then !hasT s ts else hasT s ts)) H
theorem op_inT (hu : X.A.units + 64 < cLine) : OpR X (compareOp .In) (rInT X.K false) := by
  intro pins s σ H x y v u Q I rx ry ⟨O, F, d, ts, h1, h2, o1, o2, q⟩
  obtain ⟨as, ra⟩ := readsR_of I h1 rx
  obtain ⟨c1, l1⟩ := okT_ok o1
  obtain ⟨c2, l2⟩ := okL_ok o2
  have hm := Nat.min_le_left (PyData.depthAll ts) d.depth
  rcases h2 with h2 | h2
  · obtain ⟨bs, rb⟩ := readsR_of I h2 ry
    exact SeqAt.in_tuple_reads rb ra c2 c1 (by omega) ⟨.bl _, H, I, rfl, q⟩
  · obtain ⟨bs, rb⟩ := readsR_of I h2 ry
    exact SeqAt.in_list_reads rb ra c2 c1 (by omega) ⟨.bl _, H, I, rfl, q⟩
theorem op_notInT (hu : X.A.units + 64 < cLine) : OpR X (compareOp .NotIn) (rInT X.K true) := by
  intro pins s σ H x y v u Q I rx ry ⟨O, F, d, ts, h1, h2, o1, o2, q⟩
  obtain ⟨as, ra⟩ := readsR_of I h1 rx
  obtain ⟨c1, l1⟩ := okT_ok o1
  obtain ⟨c2, l2⟩ := okL_ok o2
  have hm := Nat.min_le_left (PyData.depthAll ts) d.depth
  rcases h2 with h2 | h2
  · obtain ⟨bs, rb⟩ := readsR_of I h2 ry
    exact SeqAt.notIn_tuple_reads rb ra c2 c1 (by omega) ⟨.bl _, H, I, rfl, q⟩
  · obtain ⟨bs, rb⟩ := readsR_of I h2 ry
    exact SeqAt.notIn_list_reads rb ra c2 c1 (by omega) ⟨.bl _, H, I, rfl, q⟩
theorem op2_in {n : Bool} : Op2 X.K (oIn n) (rInT X.K n) := by
  intro O F H x y t vx vy Q d rx ry e k
  unfold oIn at e
  split at e
  · split at e
    next hz =>
      cases e
      rw [Bool.and_eq_true] at hz
      exact ⟨O, F, x, _, rx, .inl ry, hz.1, hz.2, k _ F H (Ext.refl d) (by simp [Rep])⟩
    next => cases e
  · split at e
    next hz =>
      cases e
      rw [Bool.and_eq_true] at hz
      exact ⟨O, F, x, _, rx, .inr ry, hz.1, hz.2, k _ F H (Ext.refl d) (by simp [Rep])⟩
    next => cases e
  · cases e

/-! ### order -/
theorem op2_lt : Op2 X.K oLt (fun x y H Q => rI0 (fun i j => .bl (decide (i < j))) x y H Q ∨ ∃ i j, x = .str i ∧ y = .str j ∧ Q (.bl (decide (i.cps.toList < j.cps.toList))) H) := by
    intro O F H x y t vx vy Q d rx ry e k
    unfold oLt at e
    split at e
    · cases e
      rw [rx.int, ry.int]
      exact .inl ⟨_, _, rfl, rfl, k _ F H (Ext.refl d) (by simp [Rep])⟩
    · cases e
      rw [rx.str, ry.str]
      exact .inr ⟨_, _, rfl, rfl, k _ F H (Ext.refl d) (by simp [Rep, strLt])⟩
    · cases e
/-! ### one value -/
theorem q_neg (ha : PEr X a f) : PEv X (.UnaryOp .USub a pos) (op1 oNeg f) := PE_imp (pe_un un_neg ha) fun σ H Q ⟨F₀, H₀, O, F, ε, t, r, e, k⟩ => by
  simp only [op1, Option.bind_eq_some_iff] at e
  obtain ⟨x, ex, e⟩ := e
  unfold oNeg at e
  split at e
  · cases e
    exact ⟨F₀, H₀, O, F, ε, _, r, ex, fun v F1 H1 x1 rx => ⟨_, rx.int, k _ F1 H1 x1 (by simp [Rep])⟩⟩
  · cases e

/-! ### calls of builtins -/
def OpN (K : PySem.W.Frag) (o : List T → Option T) (R : List V → Hp → VK → Prop) : Prop :=
  ∀ (O F : Addr → Prop) (H : Hp) (ts : List T) (t : T) (vs : List V) (Q : VK), (∀ a, F a → ∃ o, H a = some o) → Paired (RepR K O F H) ts vs → o ts = some t →
    (∀ v F' H', Ext F H F' H' → Rep K F' H' t v → Q v H') → R vs H Q
theorem opN_imp {o : List T → Option T} {R : List V → Hp → VK → Prop} (hR : OpN X.K o R) : ∀ σ H Q, tV X.K (opN o fs) σ H Q → tCB R (tAR X.K fs) σ H Q := by
  rintro σ H Q ⟨F₀, H₀, O, F, ε, t, r, e, k⟩
  simp only [opN, Option.bind_eq_some_iff] at e
  obtain ⟨ts, et, eo⟩ := e
  exact ⟨F₀, H₀, O, F, ε, ts, r, et, fun vs F1 H1 x1 q => hR O F1 H1 ts t vs Q x1.dom q eo fun v F' H' x3 q3 => k v F' H' (x1.trans x3) q3⟩
theorem q_len (hm : X.mg "len" = none) (ha : PAr X (e :: es) fs) (hg : Gl X "len" := by rfl) (he : starEach (e :: es) X.env = (false, eval e X.env) :: starEach es X.env := by rfl) (hpl : (backTo pos (starEach es X.env)).any (·.1) = false := by rfl) :
    PEv X (.Call (.Name "len" p) (e :: es) [] pos) (opN oLen fs) := PE_imp (pe_callB (call_len_seq.or call_len_str) hg hm PySem.boot_len ha (he := he) (hpl := hpl)) (opN_imp (by
  intro O F H ts t vs Q d q e k
  unfold oLen at e
  split at e
  · cases e
    cases q with
    | cons q1 q2 =>
      cases q2
      obtain ⟨a, ws, rfl, hs, hr⟩ := q1.tup
      exact .inl ⟨a, ws, rfl, .inr hs, k _ F H (Ext.refl d) (by simp [Rep, hr.length])⟩
  · cases e
    cases q with
    | cons q1 q2 =>
      cases q2
      obtain ⟨a, ws, rfl, hs, hr⟩ := q1.lst
      exact .inl ⟨a, ws, rfl, .inl (.inl hs), k _ F H (Ext.refl d) (by simp [Rep, hr.length])⟩
  · split at e
    next hz =>
      cases e
      cases q with
      | cons q1 q2 =>
        cases q2
        exact .inr ⟨_, by rw [q1.str], by rw [sizeL]; exact hz, k _ F H (Ext.refl d) (by simp [Rep])⟩
    next => cases e
  · cases e))
theorem q_min (hm : X.mg "min" = none) (ha : PAr X (e :: es) fs) (hc : X.calm = true := by rfl) (hg : Gl X "min" := by rfl) (he : starEach (e :: es) X.env = (false, eval e X.env) :: starEach es X.env := by rfl) (hpl : (backTo pos (starEach es X.env)).any (·.1) = false := by rfl) :
    PEv X (.Call (.Name "min" p) (e :: es) [] pos) (opN oMin fs) := PE_imp (pe_callB (call_min2 hc) hg hm (by decide +kernel) ha (he := he) (hpl := hpl)) (opN_imp (by
  intro O F H ts t vs Q d q e k
  unfold oMin at e
  split at e
  · cases e
    cases q with
    | cons q1 q2 =>
      cases q2 with
      | cons q2 q3 =>
        cases q3
        exact ⟨_, _, by rw [q1.int, q2.int], k _ F H (Ext.refl d) (by simp [Rep])⟩
  · cases e))
theorem q_max (hm : X.mg "max" = none) (ha : PAr X (e :: es) fs) (hc : X.calm = true := by rfl) (hg : Gl X "max" := by rfl) (he : starEach (e :: es) X.env = (false, eval e X.env) :: starEach es X.env := by rfl) (hpl : (backTo pos (starEach es X.env)).any (·.1) = false := by rfl) :
    PEv X (.Call (.Name "max" p) (e :: es) [] pos) (opN oMax fs) := PE_imp (pe_callB (call_max2 hc) hg hm (by decide +kernel) ha (he := he) (hpl := hpl)) (opN_imp (by
  intro O F H ts t vs Q d q e k
  unfold oMax at e
  split at e
  · cases e
    cases q with
    | cons q1 q2 =>
      cases q2 with
      | cons q2 q3 =>
        cases q3
        exact ⟨_, _, by rw [q1.int, q2.int], k _ F H (Ext.refl d) (by simp [Rep])⟩
  · cases e))
theorem q_tuple (hm : X.mg "tuple" = none) (ha : PAr X (e :: es) fs) (hg : Gl X "tuple" := by rfl) (he : starEach (e :: es) X.env = (false, eval e X.env) :: starEach es X.env := by rfl) (hpl : (backTo pos (starEach es X.env)).any (·.1) = false := by rfl) :
    PEv X (.Call (.Name "tuple" p) (e :: es) [] pos) (opN oTuple fs) := PE_imp (pe_callTy call_tuple_of hg hm (by decide +kernel) ha (he := he) (hpl := hpl)) (opN_imp (by
  intro O F H ts t vs Q d q e k
  unfold oTuple at e
  split at e
  · cases e
    cases q with
    | cons q1 q2 =>
      cases q2
      obtain ⟨a, ws, rfl, hs, hr⟩ := q1.tup
      refine ⟨a, ws, rfl, .inr ⟨hs, k _ F H (Ext.refl d) ?_⟩⟩
      simp only [Rep]
      exact ⟨a, ws, rfl, hs, hr⟩
  · cases e
    cases q with
    | cons q1 q2 =>
      cases q2
      obtain ⟨a, ws, rfl, hs, hr⟩ := q1.lst
      refine ⟨a, ws, rfl, .inl ⟨.inl hs, fun l hl => ?_⟩⟩
      have x1 := Ext.laid (o := .tup ws) d hl
      refine k _ F _ x1 ?_
      simp only [Rep]
      exact ⟨l, ws, rfl, SqT.of upd_same, hr.ext x1⟩
  · cases e))
/-! ### truth, and, or, not -/
theorem t_bool (h : PEr X e f) (he : ∀ whole, isTrue e X.env whole = (do let v ← whole; standAt e.pos; holding [v] (truthy v)) := by intro _; rfl) : PTt X e (tstB f) := PT_imp (pt_val h he) fun σ H Q ⟨F₀, H₀, O, F, ε, b, r, e, k⟩ => by
  simp only [tstB, Option.bind_eq_some_iff] at e
  obtain ⟨t, et, e⟩ := e
  split at e
  · cases e
    exact ⟨F₀, H₀, O, F, ε, _, r, et, fun v F1 H1 x1 rx => ⟨_, rx.bl, k F1 H1 x1⟩⟩
  · cases e
theorem t_isN {j pos'} (ha : PEr X a f) : PTt X (.Compare a [.Is] [.Constant .none j pos'] pos) (tstB (op1 oIsN f)) := PT_imp (pt_cmp (pc_isN ha)) fun σ H Q ⟨F₀, H₀, O, F, ε, t, r, e, k⟩ => by
  simp only [tstB, op1, oIsN, Option.bind_eq_some_iff] at e
  obtain ⟨_, ⟨x, ex, e1⟩, e⟩ := e
  cases e1
  cases e
  refine ⟨F₀, H₀, O, F, ε, x, r, ex, fun v F1 H1 x1 rx => ⟨_, ?_, k F1 H1 x1⟩⟩
  cases x with
  | none => rw [rx.non]; simp
  | bool b => rw [rx.bl]; simp
  | int b => rw [rx.int]; simp
  | str b => rw [rx.str]; simp
  | tuple b => obtain ⟨_, _, e, _⟩ := rx.tup; rw [e]; simp
  | list b => obtain ⟨_, _, e, _⟩ := rx.lst; rw [e]; simp
  | dict b => rcases rx with rx | ⟨_, _, _, z, _⟩; simp [Rep] at rx; cases z
theorem t_notN {j pos'} (ha : PEr X a f) : PTt X (.Compare a [.IsNot] [.Constant .none j pos'] pos) (tstB (op1 oNotN f)) := PT_imp (pt_cmp (pc_notN ha)) fun σ H Q ⟨F₀, H₀, O, F, ε, t, r, e, k⟩ => by
  simp only [tstB, op1, oNotN, Option.bind_eq_some_iff] at e
  obtain ⟨_, ⟨x, ex, e1⟩, e⟩ := e
  cases e1
  cases e
  refine ⟨F₀, H₀, O, F, ε, x, r, ex, fun v F1 H1 x1 rx => ⟨_, ?_, k F1 H1 x1⟩⟩
  cases x with
  | none => rw [rx.non]; simp
  | bool b => rw [rx.bl]; simp
  | int b => rw [rx.int]; simp
  | str b => rw [rx.str]; simp
  | tuple b => obtain ⟨_, _, e, _⟩ := rx.tup; rw [e]; simp
  | list b => obtain ⟨_, _, e, _⟩ := rx.lst; rw [e]; simp
  | dict b => rcases rx with rx | ⟨_, _, _, z, _⟩; simp [Rep] at rx; cases z
theorem t_list (h : PEr X e f) (he : ∀ whole, isTrue e X.env whole = (do let v ← whole; standAt e.pos; holding [v] (truthy v)) := by intro _; rfl) : PTt X e (tstL f) := PT_imp (pt_truth h he) fun σ H Q ⟨F₀, H₀, O, F, ε, b, r, e, k⟩ => by
  simp only [tstL, Option.bind_eq_some_iff] at e
  obtain ⟨t, et, e⟩ := e
  have emp : ∀ {ts : List T} {vs : List V} {F1 : Addr → Prop} {H1 : Hp}, RepL X.K F1 H1 ts vs → ts.isEmpty = vs.isEmpty := fun {ts vs F1 H1} q => by
    have := q.length
    cases ts <;> cases vs <;> simp_all
  split at e
  · cases e
    refine ⟨F₀, H₀, O, F, ε, _, r, et, fun v F1 H1 x1 rx => ?_⟩
    obtain ⟨a, vs, rfl, hs, hr⟩ := rx.lst
    exact ⟨_, .inl ⟨vs, .inl hs, by rw [emp hr]⟩, k F1 H1 x1⟩
  · cases e
    refine ⟨F₀, H₀, O, F, ε, _, r, et, fun v F1 H1 x1 rx => ?_⟩
    obtain ⟨a, vs, rfl, hs, hr⟩ := rx.tup
    exact ⟨_, .inr (.inl ⟨vs, hs, by rw [emp hr]⟩), k F1 H1 x1⟩
  · cases e
theorem t_not (h : PTt X e ft) : PTt X (.UnaryOp .Not e pos) (notT ft) := PT_imp (pt_not h) fun σ H Q ⟨F₀, H₀, O, F, ε, b, r, e, k⟩ => by
  simp only [notT, Option.map_eq_some_iff] at e
  obtain ⟨c, ec, rfl⟩ := e
  exact ⟨F₀, H₀, O, F, ε, c, r, ec, fun F1 H1 x1 => k F1 H1 x1⟩
theorem w_and1 (h : PTt X e ft) : PWt X (.BoolOp .And [e] pos) ft := pw_and1 h
theorem w_or1 (h : PTt X e ft) : PWt X (.BoolOp .Or [e] pos) ft := pw_or1 h
theorem w_and (h : PTt X a ft) (h2 : PWt X (.BoolOp .And (b :: es) pos) gt) : PWt X (.BoolOp .And (a :: b :: es) pos) (andT ft gt) := PW_imp (pw_and h h2) fun σ H Q ⟨F₀, H₀, O, F, ε, b, r, e, k⟩ => by
  simp only [andT, Option.bind_eq_some_iff] at e
  obtain ⟨c, ec, e⟩ := e
  refine ⟨F₀, H₀, O, F, ε, c, r, ec, fun F1 H1 x1 => ?_⟩
  cases c with
  | true => exact iteT ⟨F₀, H₀, O, F1, ε, b, r.ext x1, by simpa using e, fun F2 H2 x2 => k F2 H2 (x1.trans x2)⟩
  | false =>
    have : b = false := by simpa using e.symm
    subst this
    exact iteF (k F1 H1 x1)
theorem w_or (h : PTt X a ft) (h2 : PWt X (.BoolOp .Or (b :: es) pos) gt) : PWt X (.BoolOp .Or (a :: b :: es) pos) (orT ft gt) := PW_imp (pw_or h h2) fun σ H Q ⟨F₀, H₀, O, F, ε, b, r, e, k⟩ => by
  simp only [orT, Option.bind_eq_some_iff] at e
  obtain ⟨c, ec, e⟩ := e
  refine ⟨F₀, H₀, O, F, ε, c, r, ec, fun F1 H1 x1 => ?_⟩
  cases c with
  | true =>
    have : b = true := by simpa using e.symm
    subst this
    exact iteT (k F1 H1 x1)
  | false => exact iteF ⟨F₀, H₀, O, F1, ε, b, r.ext x1, by simpa using e, fun F2 H2 x2 => k F2 H2 (x1.trans x2)⟩
theorem w_t (h : PWt X e ft) : PTt X e ft := h.pt
end
end D
end
section
set_option linter.all false
set_option Elab.async false
set_option maxRecDepth 100000
set_option autoImplicit false
namespace D
open PySem PySem.Spec PyProof.Rows L2

/-- what a def promises: the value of d -/
def spT (K : PySem.W.Frag) (n : Nat) (d : List T → Option T) : Sp := fun vs H Q _ => vs.length = n ∧ ∃ F ts t, (∀ a, F a → ∃ o, H a = some o) ∧ RepL K F H ts vs ∧ d ts = some t ∧ ∀ v F' H', Ext F H F' H' → Rep K F' H' t v → Q v H'
section
variable {X : Cx} {k n : Nat} {fa : Addr} {fd : FuncData} {ps : List Str} {d : List T → Option T} {x : Str} {p pos : Pos} {e : Expr} {es : List Expr} {fs : List Fe}
theorem q_call (F : FnOk X.prog X.w X.K X.mg X.base CX0 k fa fd ps (spT X.K n d)) (hr : Room k X.A) (hg : Gl X x) (hm : X.mg x = some (.ref fa)) (hk : PySem.W.keepIn X.K (.ref fa) = true) (hb : Binds X.K fd ps [])
    (ha : PAv X (e :: es) fs) (hn : fs.length = n := by rfl) (hdb : (x == ("__debug__" : Str)) = false := by decide) (he : starEach (e :: es) X.env = (false, eval e X.env) :: starEach es X.env := by rfl) (hpl : (backTo pos (starEach es X.env)).any (·.1) = false := by rfl) :
    PEv X (.Call (.Name x p) (e :: es) [] pos) (opN d fs) := PE_imp (pe_call F hr hg hm hk hb .nil pass0 ha hdb he hpl) fun σ H Q ⟨F₀, H₀, O, F, ε, t, r, e, k⟩ => by
  simp only [opN, Option.bind_eq_some_iff] at e
  obtain ⟨ts, et, ed⟩ := e
  have hl : ∀ (gs : List Fe) (us : List T), args gs ε = some us → us.length = gs.length := by
    intro gs
    induction gs with
    | nil => intro us e; cases e; rfl
    | cons g gs ih =>
      intro us e
      simp only [args, Option.bind_eq_some_iff, Option.map_eq_some_iff] at e
      obtain ⟨t, _, vs, ev, rfl⟩ := e
      simp [ih vs ev]
  refine ⟨F₀, H₀, O, F, ε, ts, r, et, fun vs F1 H1 x1 q => ⟨?_, F1, ts, t, x1.dom, by simpa using q, ed, fun v F' H' x2 q2 => k v F' H' (x1.trans x2) q2⟩⟩
  rw [List.append_nil, ← q.length, hl fs ts et, hn]
end
section
variable {P : Program} {w : World} {K : PySem.W.Frag} {mg : Str → Option Value} {base : Heap}
theorem relE_start {F : Addr → Prop} {H : Hp} {ts : List T} {vs : List V} {N : List Str} (dom : ∀ a, F a → ∃ o, H a = some o) (q : RepL K F H ts vs) (n : Nat) :
    RelE K F H (fun a => H a = none) F H ((ts.map fun t => some (.imm t)) ++ List.replicate n none) (vs.map some ++ List.replicate n none) := by
  have imm : ∀ (i : Nat) (s : Sl), ((ts.map fun t => some (Sl.imm t)) ++ List.replicate n none)[i]? = some (some s) → ∃ t, s = .imm t ∧ ts[i]? = some t := by
    intro i s e
    by_cases hi : i < ts.length
    · rw [List.getElem?_append_left (by simpa using hi), List.getElem?_map] at e
      rw [List.getElem?_eq_getElem hi] at e ⊢
      simp at e
      exact ⟨_, e.symm, rfl⟩
    · rw [List.getElem?_append_right (by simpa using hi), List.getElem?_replicate] at e
      split at e <;> cases e
  refine ⟨by simp [q.length], fun i s e => ?_, fun i j s u a hij e1 e2 o1 => ?_, Ext.refl dom, fun _ h => h, fun _ h => h⟩
  · obtain ⟨t, rfl, ht⟩ := imm i s e
    obtain ⟨v, hv, rv⟩ := q.get ht
    refine ⟨v, ?_, rv⟩
    rw [List.getElem?_append_left (by have := (List.getElem?_eq_some_iff.mp hv).1; simpa using this), List.getElem?_map, hv]
    rfl
  · obtain ⟨t, rfl, _⟩ := imm i s e1
    cases o1
/-- THE RULE for a def: its body's meaning -/
theorem fun_ok {x qual : Str} {st : Stmt} {f : Addr} {fd : FuncData} {N ps : List Str} {k : Nat} {b : Fs} (F : Fun K x qual st f fd) (S : FnScope N ps (defScope st))
    (hb : ∀ (cdv : Value) (A : Around) (outer : List Env) (s : Shared) (H : Hp) (E : XK), Room k (A.deeper (envOfC qual (defScope st) s.heap.objs.size f cdv)) →
      PBt (cxOf CX0 P w K mg base N qual (defScope st) f cdv A outer s H E).nox (defBody st) b) :
    FnOk P w K mg base CX0 (k + 1) f fd ps (spT K ps.length (runF b N.length)) := by
  refine F.ok S (fun vs H Q E h => h.1) fun cdv A outer s H vs Q E hr h => ⟨_, hb cdv A outer s H E hr, ?_⟩
  obtain ⟨hl, F, ts, t, dom, q, e, kq⟩ := h
  simp only [runF, Option.bind_eq_some_iff] at e
  obtain ⟨o, eo, e⟩ := e
  refine ⟨F, H, fun a => H a = none, F, _, o, ?_, eo, ?_⟩
  · have := relE_start (N := N) dom q (N.length - ts.length)
    unfold L2.start
    rw [q.length] at this ⊢
    exact this
  · cases o with
    | rt t' =>
      cases e
      exact fun v F' H' x q => kq v F' H' x q
    | nx ε' =>
      cases e
      exact fun σ' F' H' _ r => kq _ F' H' r.ent (by simp [Rep])
    | bk _ => cases e
    | ct _ => cases e
/-- less depth is less -/
theorem fnOk_none {f : Addr} {fd : FuncData} {ps : List Str} {k n : Nat} : FnOk P w K mg base CX0 k f fd ps (spT K n fun _ => none) := by
  have no : ∀ vs H Q E, ¬ spT K n (fun _ => none) vs H Q E := fun vs H Q E h => by
    obtain ⟨_, _, _, _, _, _, e, _⟩ := h
    cases e
  exact ⟨fun vs H Q E h => absurd h (no vs H Q E), fun A outer s H args us vs Q E _ _ _ _ h => absurd h (no vs H Q E)⟩
end
end D
end
section
set_option linter.all false
set_option Elab.async false
set_option maxRecDepth 100000
set_option autoImplicit false
namespace D
open PySem PySem.Spec PyProof.Rows L2

/-! ### the cells that a comprehension takes -/
def clos (env : Env) : List (Str × NameKind) → List (Str × Addr) → List (Str × Addr)
  | [], cs => cs
  | x :: r, cs => if x.2 == .free then clos env r ((x.1, (env.cells.lookup x.1).getD 0) :: cs) else clos env r cs
theorem closureFor_eq {scope : Scope} {env : Env} (h : ∀ x ∈ scope.names, x.2 = .free → ∃ c, env.cells.lookup x.1 = some c) : closureFor scope env = pure (clos env scope.names []) := by
  have go : ∀ (l : List (Str × NameKind)) (cs : List (Str × Addr)), (∀ x ∈ l, x.2 = .free → ∃ c, env.cells.lookup x.1 = some c) →
      (forIn l cs (fun x r => (if (x.2 == NameKind.free) = true then do let a ← cellOf env x.1; pure (ForInStep.yield ((x.1, a) :: r)) else pure (ForInStep.yield r)) : _ → _ → Sem (ForInStep (List (Str × Addr)))) : Sem (List (Str × Addr))) = pure (clos env l cs) := by
    intro l
    induction l with
    | nil => intro cs _; rfl
    | cons x r ih =>
      intro cs hl
      rw [List.forIn_cons]
      have hr := fun y hy => hl y (List.mem_cons_of_mem _ hy)
      by_cases k : x.2 = .free
      · obtain ⟨c, hc⟩ := hl x List.mem_cons_self k
        have e1 : (x.2 == NameKind.free) = true := by simp [k]
        simp only [e1, if_true, cellOf, hc, clos, Option.getD_some]
        exact ih _ hr
      · have e1 : (x.2 == NameKind.free) = false := by simpa using k
        simp only [e1, Bool.false_eq_true, if_false, clos]
        exact ih _ hr
  have := go scope.names [] h
  simp only [closureFor]
  exact congrArg (fun m => m >>= fun cs => pure cs) this
theorem clos_from {env : Env} : ∀ {l : List (Str × NameKind)} {cs : List (Str × Addr)}, (∀ x ∈ l, x.2 = .free → ∃ c, env.cells.lookup x.1 = some c) → (∀ x c, cs.lookup x = some c → env.cells.lookup x = some c) → ∀ x c, (clos env l cs).lookup x = some c → env.cells.lookup x = some c
  | [], cs, _, h, x, c, e => h x c e
  | y :: r, cs, hl, h, x, c, e => by
    unfold clos at e
    have hr := fun z hz => hl z (List.mem_cons_of_mem _ hz)
    split at e
    next k =>
      refine clos_from hr (fun x c e => ?_) x c e
      rw [List.lookup_cons] at e
      split at e
      next hb =>
        obtain ⟨c', hc⟩ := hl y List.mem_cons_self (by simpa using k)
        have : x = y.1 := by simpa using hb
        subst this
        rw [hc] at e ⊢
        simpa using e
      next => exact h x c e
    next => exact clos_from hr h x c e
theorem clos_has {env : Env} : ∀ {l : List (Str × NameKind)} {cs : List (Str × Addr)} {x : Str}, ((∃ y ∈ l, y.2 = .free ∧ y.1 = x) ∨ ∃ c, cs.lookup x = some c) → ∃ c, (clos env l cs).lookup x = some c
  | [], cs, x, h => by
    rcases h with ⟨y, hy, _⟩ | h
    · cases hy
    · exact h
  | y :: r, cs, x, h => by
    unfold clos
    split
    next k =>
      refine clos_has ?_
      rcases h with ⟨z, hz, k', e⟩ | ⟨c, h⟩
      · rcases List.mem_cons.mp hz with rfl | hz
        · refine .inr ?_
          subst e
          rw [List.lookup_cons]
          simp
        · exact .inl ⟨z, hz, k', e⟩
      · refine .inr ?_
        rw [List.lookup_cons]
        split
        · exact ⟨_, rfl⟩
        · exact ⟨c, h⟩
    next k =>
      refine clos_has ?_
      rcases h with ⟨z, hz, k', e⟩ | h
      · rcases List.mem_cons.mp hz with rfl | hz
        · exact absurd (by simpa using k') k
        · exact .inl ⟨z, hz, k', e⟩
      · exact .inr h

/-! ### the block's own context -/
def compCx (X : Cx) (N' : List Str) (scope : Scope) (cl : List (Str × Addr)) (C : Addr) (s₀ : Shared) (H₀ : Hp) (fp : List Addr) (pn : List (Addr × Obj)) : Cx where
  prog := X.prog
  w := X.w
  K := X.K
  mg := X.mg
  base := X.base
  A := X.A
  N := N'
  s₀ := s₀
  H₀ := H₀
  env := compEnvC scope cl C X.env
  outer := X.stack
  stack := X.stack
  ex := fp
  fn := fun _ => false
  calm := X.calm
  pn := pn
  xe := fun _ _ => False
/-- the tests of a comprehension -/
def PTs (X : Cx) (ifs : List Expr) (cc : Ft) : Prop := ∀ (pins : List (Addr × Obj)) (s : Shared) (σ : L2.St) (H : Hp) (Q : Bool → Hp → Prop), L2.Inv X pins σ H s → tT X.K cc σ H Q →
  wpAny (model X.prog X.w) X.A (forIn ifs true fun c r => if r = true then do let ok ← isTrue c X.env (eval c X.env); pure (ForInStep.yield ok) else pure (ForInStep.yield r)) (TP X pins σ Q) X.xe s
theorem ts_nil {X : Cx} : PTs X [] (cstT true) := fun pins s σ H Q I ⟨F₀, H₀, O, F, ε, b, r, e, k⟩ => by
  cases e
  exact wpAny_tests_nil ⟨H, I, k F H (Ext.refl r.dom)⟩
theorem ts_one {X : Cx} {c : Expr} {cc : Ft} (h : PTt X c cc) : PTs X [c] cc := fun pins s σ H Q I q => wpAny_tests_one (h pins s σ H Q I q)
section
variable {prog : Program} {w : World} {A : Around} {R : Result → Shared → Prop} {s : Shared}
/-- the loop of a comprehension, any target -/
theorem compLoop_any {elt target iter : Expr} {ifs : List Expr} {scope : Scope} {pos : Pos} {it acc : Value} {env : Env} (I : Nat → Shared → Prop)
    (turn : ∀ n s, I n s → wpAny (model prog w) A (pyNext it) (fun r s₁ => match r with
      | none => R (.ok .next) s₁
      | some v => wpAny (model prog w) A (letOwnedTupleGo target it v) (fun _ s₁' => wpAny (model prog w) A (assign target env v) (fun _ s₂ =>
          wpAny (model prog w) A (forIn ifs true fun c r => if r = true then do let ok ← isTrue c env (eval c env); pure (ForInStep.yield ok) else pure (ForInStep.yield r)) (fun ok s₃ =>
            if ok = true then wpAny (model prog w) A (eval elt env) (fun x s₄ =>
              wpAny (model prog w) A (call (.builtin "list.append") [acc, x]) (fun _ s₅ => ∃ m, m < n ∧ I m s₅) (fun _ _ => False) s₄) (fun _ _ => False) s₃
            else ∃ m, m < n ∧ I m s₃) (fun _ _ => False) s₂) (fun _ _ => False) s₁') (fun _ _ => False) s₁) (fun _ _ => False) s)
    (n : Nat) (h : I n s) : codeAny (model prog w) A (.compLoop (.ListComp elt [⟨target, iter, ifs, 0⟩] scope pos) 0 it acc env) R s := by
  refine codeAny_loop rfl I (fun n s hI => ?_) n h
  show wpAny _ A ((compTurn (.ListComp elt [⟨target, iter, ifs, 0⟩] scope pos) 0 it acc env).onRaise (fun x => do noteFrame x env; theTreesLotGoes x)) _ _ s
  refine wpAny_noted ?_
  rw [compTurn_list]
  refine wpAny_bind (wpAny_standAt (wpAny_bind (wpAny_mono (turn n s hI) (fun r s₁ h₁ => ?_) fun _ _ h' => h'.elim)))
  cases r with
  | none => exact wpAny_pure h₁
  | some v =>
    refine wpAny_bind (wpAny_mono h₁ (fun _ s₁' h₁' => ?_) fun _ _ h' => h'.elim)
    refine wpAny_bind (wpAny_mono h₁' (fun _ s₂ h₂ => wpAny_bind (wpAny_mono h₂ (fun ok s₃ h₃ => ?_) fun _ _ h' => h'.elim)) fun _ _ h' => h'.elim)
    cases ok with
    | false => exact wpAny_pure ⟨rfl, h₃⟩
    | true =>
      exact wpAny_bind (wpAny_bind (wpAny_mono h₃ (fun x s₄ h₄ => wpAny_bind (wpAny_mono h₄ (fun _ s₅ h₅ => wpAny_pure (wpAny_pure ⟨rfl, h₅⟩)) fun _ _ h' => h'.elim)) fun _ _ h' => h'.elim))
end
end D
end
section
set_option linter.all false
set_option Elab.async false
set_option maxRecDepth 100000
set_option autoImplicit false
namespace D
open PySem PySem.Spec PyProof.Rows L2

theorem lookup_relabel {env : Env} {k : NameKind} : ∀ {names : List (Str × NameKind)} {x : Str}, names.lookup x = some k → ∃ k', (names.map fun (n, k) => if (k == NameKind.free && env.scope.kind == .function && env.kindOf n == some .cell) then (n, NameKind.cell) else (n, k)).lookup x = some k' ∧ (k' = k ∨ (k = .free ∧ k' = .cell))
  | [], x, h => by simp at h
  | (n, j) :: r, x, h => by
    have ih := @lookup_relabel env k r x
    show ∃ k', List.lookup x ((if (j == NameKind.free && env.scope.kind == .function && env.kindOf n == some .cell) = true then (n, NameKind.cell) else (n, j)) :: _) = some k' ∧ _
    cases hx : x == n with
    | true =>
      simp only [List.lookup_cons, hx] at h
      cases h
      by_cases hc : (k == NameKind.free && env.scope.kind == .function && env.kindOf n == some .cell) = true
      · rw [if_pos hc]
        refine ⟨.cell, by simp [List.lookup_cons, hx], .inr ⟨?_, rfl⟩⟩
        simp only [Bool.and_eq_true] at hc
        simpa using hc.1.1
      · rw [if_neg hc]
        exact ⟨k, by simp [List.lookup_cons, hx], .inl rfl⟩
    | false =>
      simp only [List.lookup_cons, hx] at h
      obtain ⟨k', h1, h2⟩ := ih h
      refine ⟨k', ?_, h2⟩
      by_cases hc : (j == NameKind.free && env.scope.kind == .function && env.kindOf n == some .cell) = true
      · rw [if_pos hc]; simp only [List.lookup_cons, hx]; exact h1
      · rw [if_neg hc]; simp only [List.lookup_cons, hx]; exact h1
theorem mem_lookup {names : List (Str × NameKind)} {x : Str} {k : NameKind} (h : names.lookup x = some k) : ∃ y ∈ names, y.2 = k ∧ y.1 = x := by
  induction names with
  | nil => simp at h
  | cons y r ih =>
    rw [List.lookup_cons] at h
    split at h
    next hb =>
      cases h
      exact ⟨y, List.mem_cons_self, rfl, by simpa using (beq_iff_eq.mp hb).symm⟩
    next =>
      obtain ⟨z, hz, h1, h2⟩ := ih h
      exact ⟨z, List.mem_cons_of_mem _ hz, h1, h2⟩
/-- in the relabelled scope a name is cell or free just if it was free -/
theorem relabel_free {scope : Scope} {env : Env} (hcell : ∀ y ∈ scope.names, y.2 ≠ .cell) {x : Str} (h : (relabel scope env).names.lookup x = some .cell ∨ (relabel scope env).names.lookup x = some .free) : ∃ y ∈ scope.names, y.2 = .free ∧ y.1 = x := by
  have go : ∀ {k : NameKind}, (relabel scope env).names.lookup x = some k → (k = .cell ∨ k = .free) → ∃ y ∈ scope.names, y.2 = .free ∧ y.1 = x := fun {k} e hk => by
    obtain ⟨y, hy, h1, h2⟩ := mem_lookup e
    obtain ⟨⟨n, j⟩, hz, e2⟩ := List.mem_map.mp (show y ∈ scope.names.map _ from hy)
    by_cases hc : (j == NameKind.free && env.scope.kind == .function && env.kindOf n == some .cell) = true
    · have e3 : (n, NameKind.cell) = y := by
        have e4 : (if (j == NameKind.free && env.scope.kind == .function && env.kindOf n == some .cell) = true then (n, NameKind.cell) else (n, j)) = y := e2
        rwa [if_pos hc] at e4
      subst e3
      simp only [Bool.and_eq_true] at hc
      exact ⟨(n, j), hz, by simpa using hc.1.1, h2⟩
    · have e3 : (n, j) = y := by
        have e4 : (if (j == NameKind.free && env.scope.kind == .function && env.kindOf n == some .cell) = true then (n, NameKind.cell) else (n, j)) = y := e2
        rwa [if_neg hc] at e4
      subst e3
      rcases hk with rfl | rfl
      · exact absurd h1 (hcell _ hz)
      · exact ⟨(n, j), hz, h1, h2⟩
  rcases h with h | h
  · exact go h (.inl rfl)
  · exact go h (.inr rfl)

/-- what stands outside of the frame's own lists changes -/
theorem RelE.other {K : PySem.W.Frag} {F₀ O F : Addr → Prop} {H₀ H : Hp} {ε : Ev} {σ : L2.St} {a : Addr} {xs ys : List V} (r : RelE K F₀ H₀ O F H ε σ) (hn : ¬ F a) (ho : ¬ O a) (h0 : H₀ a = none) (ha : H a = some (.lst xs)) :
    Kp K F H F (upd H a (.lst ys)) ∧ RelE K F₀ H₀ O F (upd H a (.lst ys)) ε σ := by
  have kp : Kp K F H F (upd H a (.lst ys)) := by
    refine ⟨fun b zs q => ?_, fun b zs f q => ⟨f, ?_⟩⟩
    · rcases q with q | q
      · refine .inl ?_
        have nb : b ≠ a := by
          rintro rfl
          rcases q with q | ⟨_, q⟩
          · rw [ha] at q
            cases q
          · rw [ha] at q
            cases q
        rcases q with q | ⟨u, q⟩
        · exact .inl (by rw [upd_ne nb]; exact q)
        · exact .inr ⟨u, by rw [upd_ne nb]; exact q⟩
      · exact .inr q
    · have nb : b ≠ a := by
        rintro rfl
        exact hn f
      rcases q with q | ⟨u, q⟩
      · exact .inl (by rw [upd_ne nb]; exact q)
      · exact .inr ⟨u, by rw [upd_ne nb]; exact q⟩
  refine ⟨kp, ⟨r.len, fun j u e => ?_, r.ne, ?_, r.o0, fun b e => r.fr b ?_⟩⟩
  · obtain ⟨v, h1, h2⟩ := r.val j u e
    refine ⟨v, h1, ?_⟩
    cases u with
    | imm t => exact Rep.kp h2 kp
    | own ts =>
      obtain ⟨b, vs, rfl, n, o, eh, z⟩ := h2
      have nb : b ≠ a := by
        rintro rfl
        exact ho o
      exact ⟨b, vs, rfl, n, o, by rw [upd_ne nb]; exact eh, z.kp kp⟩
    | dic ts =>
      obtain ⟨b, vs, rfl, n, o, eh, z⟩ := h2
      have nb : b ≠ a := by
        rintro rfl
        exact ho o
      exact ⟨b, vs, rfl, n, o, by rw [upd_ne nb]; exact eh, RepD.kp kp z⟩
  · refine ⟨fun b u q => ?_, r.ent.sub, r.ent.new, fun b f => ?_⟩
    · have nb : b ≠ a := by
        rintro rfl
        rw [h0] at q
        cases q
      rw [upd_ne nb]
      exact r.ent.same b u q
    · have nb : b ≠ a := by
        rintro rfl
        exact hn f
      rw [upd_ne nb]
      exact r.ent.dom b f
  · by_cases nb : b = a
    · subst nb
      rw [upd_same] at e
      cases e
    · rwa [upd_ne nb] at e

/-- the names of a comprehension: its own, then those that it takes -/
def capSt (n : Nat) (caps : List Nat) (σ : L2.St) : L2.St := List.replicate n none ++ caps.map fun i => (σ[i]?).join
theorem join_some {α : Type} {o : Option (Option α)} {x : α} (h : o.join = some x) : o = some (some x) := by
  cases o with
  | none => cases h
  | some o => exact congrArg some h
theorem cap_get {α : Type} {n : Nat} {caps : List Nat} {l : List (Option α)} {i : Nat} {x : α} (h : (List.replicate n none ++ caps.map fun i => (l[i]?).join)[i]? = some (some x)) : ∃ j, n ≤ i ∧ caps[i - n]? = some j ∧ l[j]? = some (some x) := by
  by_cases hi : i < n
  · rw [List.getElem?_append_left (by simpa using hi), List.getElem?_replicate] at h
    rw [if_pos hi] at h
    cases h
  · rw [List.getElem?_append_right (by simpa using hi), List.length_replicate, List.getElem?_map] at h
    cases e : caps[i - n]? with
    | none =>
      rw [e] at h
      cases h
    | some j =>
      rw [e] at h
      exact ⟨j, by omega, rfl, join_some (Option.some.inj h)⟩
theorem get_cap {α : Type} {n : Nat} {caps : List Nat} {l : List (Option α)} {i j : Nat} {x : α} (hi : n ≤ i) (hc : caps[i - n]? = some j) (h : l[j]? = some (some x)) : (List.replicate n none ++ caps.map fun i => (l[i]?).join)[i]? = some (some x) := by
  rw [List.getElem?_append_right (by simpa using hi), List.length_replicate, List.getElem?_map, hc]
  simp [h]
theorem RelE.cap {K : PySem.W.Frag} {F₀ O F : Addr → Prop} {H₀ H : Hp} {ε : Ev} {σ : L2.St} {D : Addr} (r : RelE K F₀ H₀ O F H ε σ) (n : Nat) {caps : List Nat} (nd : caps.Nodup) (hD : H D = none) :
    RelE K F₀ H₀ (fun a => O a ∧ a ≠ D) F (upd H D (.lst [])) (capEnv n caps ε) (capSt n caps σ) := by
  have x := Ext.laid (o := .lst []) r.dom hD
  refine ⟨by simp [capEnv, capSt], fun i s e => ?_, fun i j s u a hij e1 e2 o1 o2 h1 h2 => ?_, r.ent.trans x, fun a h => r.o0 a h.1, fun a h => ?_⟩
  · obtain ⟨j, hn, hc, e'⟩ := cap_get e
    obtain ⟨v, h1, h2⟩ := r.val j s e'
    refine ⟨v, get_cap hn hc h1, ?_⟩
    cases s with
    | imm t => exact Rep.ext h2 x
    | own ts =>
      obtain ⟨a, vs, e, nf, o, eh, z⟩ := h2
      exact ⟨a, vs, e, nf, ⟨o, fun q => by rw [q, hD] at eh; cases eh⟩, x.same _ _ eh, z.ext x⟩
    | dic ts =>
      obtain ⟨a, vs, e, nf, o, eh, z⟩ := h2
      exact ⟨a, vs, e, nf, ⟨o, fun q => by rw [q, hD] at eh; cases eh⟩, x.same _ _ eh, RepD.kp x.kp z⟩
  · obtain ⟨i', hi, ci, e1'⟩ := cap_get e1
    obtain ⟨j', hj, cj, e2'⟩ := cap_get e2
    obtain ⟨i2, _, ci2, h1'⟩ := cap_get (l := σ) h1
    obtain ⟨j2, _, cj2, h2'⟩ := cap_get (l := σ) h2
    rw [ci] at ci2
    rw [cj] at cj2
    cases ci2
    cases cj2
    refine r.ne i' j' s u a (fun z => ?_) e1' e2' o1 o2 h1' h2'
    subst z
    obtain ⟨l1, m1⟩ := List.getElem?_eq_some_iff.mp ci
    obtain ⟨l2, m2⟩ := List.getElem?_eq_some_iff.mp cj
    have ne : i - n ≠ j - n := by omega
    rcases Nat.lt_or_gt_of_ne ne with q | q
    · exact (List.pairwise_iff_getElem.mp nd _ _ l1 l2 q) (m1.trans m2.symm)
    · exact (List.pairwise_iff_getElem.mp nd _ _ l2 l1 q) (m2.trans m1.symm)
  · have nd : a ≠ D := by
      rintro rfl
      rw [upd_same] at h
      cases h
    rw [upd_ne nd] at h
    exact ⟨r.fr a h, nd⟩
end D
end
section
set_option linter.all false
set_option Elab.async false
set_option maxRecDepth 100000
set_option autoImplicit false
namespace D
open PySem PySem.Spec PyProof.Rows L2
/-- what of a comprehension's scope must hold -/
structure CompOk (X : Cx) (scope : Scope) (own : List Str) (caps : List (Nat × Str)) : Prop where
  kind : scope.kind = .function
  names : ∀ y ∈ scope.names, y.2 = .local → scope.names.lookup y.1 = some .local
  cell : ∀ y ∈ scope.names, y.2 ≠ .cell
  free : ∀ y ∈ scope.names, y.2 = .free → X.env.kindOf y.1 = some .cell ∨ X.env.kindOf y.1 = some .free
  cap : ∀ p ∈ caps, X.N[p.1]? = some p.2 ∧ scope.names.lookup p.2 = some .free
  nd : (caps.map (·.1)).Nodup
  calm : X.calm = true
section
variable {X : Cx} {tg iter elt : Expr} {ifs : List Expr} {scope : Scope} {it : Fi} {gg : Fg} {cc : Ft} {ee : Fe} {pos : Pos} {own : List Str} {caps : List (Nat × Str)}
/-- the block's context stands -/
theorem comp_ok {pins : List (Addr × Obj)} {σ : L2.St} {H2 : Hp} {s2 : Shared} {fp : List Addr} (S : CompOk X scope own caps) (I2 : L2.Inv X pins σ H2 s2) (f2 : ∀ b ∈ fp, FpOk X pins H2 b) (hfp : ∀ b ∈ fp, b < s2.heap.objs.size) (N' : List Str) :
    (compCx X N' scope (clos X.env scope.names []) (s2.heap.push { cls := .type "list", data := .seq ([] : List Value).toArray }).objs.size { s2 with heap := s2.heap.push { cls := .type "list", data := .seq ([] : List Value).toArray } } (upd H2 s2.heap.objs.size (.lst [])) fp (X.pn ++ pins)).Ok := by
  have hcl : ∀ x ∈ scope.names, x.2 = .free → ∃ c, X.env.cells.lookup x.1 = some c := fun x hx hk => I2.ok.has x.1 (S.free x hx hk)
  have cf : ∀ x c, (clos X.env scope.names []).lookup x = some c → X.env.cells.lookup x = some c := clos_from hcl (fun x c e => by simp at e)
  have I3 := I2.lnew (its := []) (ys := []) (t' := s2.toks) .nil (Nat.zero_le _)
  have sz : (s2.heap.push { cls := .type "list", data := .seq ([] : List Value).toArray }).objs.size = s2.heap.objs.size + 1 := Heap.size_push ..
  refine ⟨I2.ok.mod, S.kind, I2.ok.glob, I2.ok.blt, Nat.le_refl _, fun x y c e1 e2 => I2.ok.inj x y c (cf x c e1) (cf y c e2), fun x hx => ?_, fun x c h => (by cases h), I2.ok.hd, I2.ok.frames, .inl rfl, fun b hb => ⟨?_, fun x c e => (f2 b hb).2.2.2.2.1 x c (cf x c e)⟩, fun b o e => ?_, ?_, fun b o e hb => ?_, fun b hb hf => ?_, I3.stack, I3.stkFree⟩
  · exact clos_has (.inl (relabel_free S.cell hx))
  · show b ≠ (s2.heap.push { cls := .type "list", data := .seq ([] : List Value).toArray }).objs.size
    have h := hfp b hb
    rw [sz]
    exact Nat.ne_of_lt (Nat.lt_succ_of_lt h)
  · obtain ⟨h1, h2⟩ := I3.bs b o e
    exact ⟨h1, h2⟩
  · have h1 := Nat.le_trans I2.ok.bsz I2.sz
    show X.base.objs.size ≤ (s2.heap.push { cls := .type "list", data := .seq ([] : List Value).toArray }).objs.size
    omega
  · rcases (f2 b hb).2.2.2.1 with q | q
    · exact I2.ok.noex b o e q
    · exact absurd (Nat.lt_of_lt_of_le (Heap.lt_size (I2.ok.bs b o e).1) q) (Nat.lt_irrefl _)
  · rcases List.mem_cons.mp (I2.stkSub b hf) with q | q
    · exact (f2 b hb).2.1 q
    · exact (f2 b hb).2.2.1 q
/-- its first state -/
theorem comp_inv {pins : List (Addr × Obj)} {σ : L2.St} {H2 : Hp} {s2 : Shared} {fp : List Addr} (S : CompOk X scope own caps) (I2 : L2.Inv X pins σ H2 s2) (f2 : ∀ b ∈ fp, FpOk X pins H2 b) (hfp : ∀ b ∈ fp, b < s2.heap.objs.size) {h₁ : Heap} {m : Str → Option Value} {tk : Nat}
    (hns : h₁.Ns (s2.heap.push { cls := .type "list", data := .seq ([] : List Value).toArray }).objs.size m) (keep : ∀ b u, (s2.heap.push { cls := .type "list", data := .seq ([] : List Value).toArray }).get? b = some u → h₁.get? b = some u) :
    L2.Inv (compCx X (own ++ caps.map (·.2)) scope (clos X.env scope.names []) (s2.heap.push { cls := .type "list", data := .seq ([] : List Value).toArray }).objs.size { s2 with heap := s2.heap.push { cls := .type "list", data := .seq ([] : List Value).toArray } } (upd H2 s2.heap.objs.size (.lst [])) fp (X.pn ++ pins)) []
      (capSt own.length (caps.map (·.1)) σ) (upd H2 s2.heap.objs.size (.lst [])) { s2 with heap := h₁, toks := tk } := by
  have hcl : ∀ x ∈ scope.names, x.2 = .free → ∃ c, X.env.cells.lookup x.1 = some c := fun x hx hk => I2.ok.has x.1 (S.free x hx hk)
  have cf : ∀ x c, (clos X.env scope.names []).lookup x = some c → X.env.cells.lookup x = some c := clos_from hcl (fun x c e => by simp at e)
  have I3 := I2.lnew (its := []) (ys := []) (t' := s2.toks) .nil (Nat.zero_le _)
  refine ⟨comp_ok S I2 f2 hfp _, rfl, I2.bare, Un.kept keep, ⟨m, hns, fun i x v h1 h2 hv => ?_⟩, fun x c e => ?_, ?_, fun x c e => I3.freeC x c (cf x c e), fun p hp => ?_, I3.hok.kept keep, by simp [capSt, compCx]⟩
  · obtain ⟨j, hn, hc, hj⟩ := cap_get (l := σ) h2
    have hx : (caps.map (·.2))[i - own.length]? = some x := by
      have : (own ++ caps.map (·.2))[i]? = some x := h1
      rwa [List.getElem?_append_right hn] at this
    rw [List.getElem?_map] at hc hx
    cases ep : caps[i - own.length]? with
    | none => rw [ep] at hc; cases hc
    | some p =>
      rw [ep] at hc hx
      cases hc
      cases hx
      obtain ⟨hN, hf⟩ := S.cap p (List.mem_of_getElem? ep)
      obtain ⟨y, hy, k1, k2⟩ := mem_lookup hf
      have hk := S.free y hy k1
      rw [k2] at hk
      obtain ⟨m3, hn3, hl3⟩ := I3.loc
      have vis : Vis X.env.scope p.2 := by
        rcases hk with hk | hk
        · exact .inr (.inl hk)
        · exact .inr (.inr hk)
      obtain ⟨u, ru, lu⟩ := hl3 p.1 p.2 v hN hj vis
      refine ⟨u, ru, .inr ⟨?_, ?_⟩⟩
      · obtain ⟨k', e1, e2⟩ := lookup_relabel (env := X.env) hf
        rcases e2 with rfl | ⟨_, rfl⟩
        · exact .inr e1
        · exact .inl e1
      · rcases lu with ⟨q, _⟩ | ⟨_, c, hc, hcell⟩
        · rcases hk with hk | hk
          · rw [hk] at q; cases q
          · rw [hk] at q; cases q
        · obtain ⟨c', hc'⟩ := clos_has (env := X.env) (l := scope.names) (cs := []) (x := p.2) (.inl ⟨y, hy, k1, k2⟩)
          have := cf _ _ hc'
          rw [hc] at this
          cases this
          obtain ⟨oc, ho, hd⟩ := hcell
          exact ⟨c, hc', oc, keep _ _ ho, hd⟩
  · obtain ⟨v, oc, ho, hd⟩ := I3.cell x c (cf x c e)
    exact ⟨v, oc, keep _ _ ho, hd⟩
  · exact I3.hok.fresh (Nat.le_refl _)
  · have hp' : p ∈ X.pn ++ pins := by simpa [compCx] using hp
    obtain ⟨h1, h2, h3, h4, h5⟩ := I3.pin p hp'
    refine ⟨keep _ _ h1, h2, Nat.ne_of_lt (Heap.lt_size h1), fun z => ?_, h5⟩
    rcases List.mem_cons.mp (I2.stkSub p.1 z) with q | q
    · exact h3 q
    · exact h4 q
/-- behind it -/
theorem comp_after {pins : List (Addr × Obj)} {σ σ' : L2.St} {H2 H' : Hp} {s2 s' : Shared} {fp : List Addr} {N' : List Str} (I2 : L2.Inv X pins σ H2 s2) (f2 : ∀ b ∈ fp, FpOk X pins H2 b)
    (J : L2.Inv (compCx X N' scope (clos X.env scope.names []) (s2.heap.push { cls := .type "list", data := .seq ([] : List Value).toArray }).objs.size { s2 with heap := s2.heap.push { cls := .type "list", data := .seq ([] : List Value).toArray } } (upd H2 s2.heap.objs.size (.lst [])) fp (X.pn ++ pins)) [] σ' H' s')
    {h' : Heap} (sb : Heap.SameBut (s2.heap.push { cls := .type "list", data := .seq ([] : List Value).toArray }).objs.size s'.heap h') : L2.Inv X pins σ H' { s' with heap := h' } := by
  have I3 := I2.lnew (its := []) (ys := []) (t' := s2.toks) .nil (Nat.zero_le _)
  have u := J.base
  have free : H' (s2.heap.push { cls := .type "list", data := .seq ([] : List Value).toArray }).objs.size = none := J.free
  have old : ∀ b o, (s2.heap.push { cls := .type "list", data := .seq ([] : List Value).toArray }).get? b = some o → b ≠ (s2.heap.push { cls := .type "list", data := .seq ([] : List Value).toArray }).objs.size := fun b o e => Nat.ne_of_lt (Heap.lt_size e)
  have eqh : ∀ b, b ≠ (s2.heap.push { cls := .type "list", data := .seq ([] : List Value).toArray }).objs.size → ∀ o, s'.heap.get? b = some o → h'.get? b = some o := fun b hb o e => sb.extBut b o hb e
  have u2 : Un (frs X.stack) fp (upd H2 s2.heap.objs.size (.lst [])) H' (s2.heap.push { cls := .type "list", data := .seq ([] : List Value).toArray }) h' := by
    refine ⟨fun b o e n hf hx => eqh b (old b o e) _ (u.keep b o e n hf hx), fun b o e n hf hx => ?_, u.free, fun b o e hx => ?_, u.tups, u.frzs, u.tbls⟩
    · obtain ⟨sl, q⟩ := u.slot b o e n hf hx
      exact ⟨sl, eqh b (old b o e) _ q⟩
    · obtain ⟨o', q⟩ := u.there b o e hx
      exact ⟨o', eqh b (old b o e) _ q⟩
  have hok : HOk X.prog X.w H' h' := fun b o e => by
    refine (J.hok b o e).stay (fun c v hc q => eqh c (fun z => ?_) v q) (fun _ q => q) fun _ _ q => q
    rcases hc with rfl | hc
    · rw [z, free] at e
      cases e
    · rw [z, free] at hc
      cases hc
  have hos := J.os
  have hbare := J.bare
  obtain ⟨hh, g, d, t, os⟩ := s'
  obtain rfl : os = s2.os := hos
  have fin := I3.call (h' := h') (g' := g) (d' := d) (t' := t) (ch := fp) u2 hok hbare fun b hb => ⟨(f2 b hb).2.2.2.1, (f2 b hb).2.1, (f2 b hb).2.2.2.2.1, (f2 b hb).2.2.2.2.2⟩
  exact fin
/-- the loop of a comprehension by trees -/
theorem comp_loop {X' : Cx} {R : Result → Shared → Prop} {J : It} {fp : List Addr} {it' D : Addr} {tn : Nat → Heap → Prop} {F₀ O F1 : Addr → Prop} {H₀ H2 : Hp} {ts ys : List T} (hx : X'.xe = fun _ _ => False) (hc : X'.calm = true) (hg : PGt X' tg gg) (ht : PTs X' ifs cc) (he : PEv X' elt ee)
    (T : Turn X'.prog X'.w X'.K tg J fp it' tn) (stat : ∀ H' : Hp, (∀ b ∈ fp, H' b = none) → ∀ b ∈ fp, FpOk X' [] H' b) (ok : ItOk X'.K J F1 H2 ts) (hbig : ts.length ≤ big) (hD2 : H2 D = none) (hO : ¬ O D) (hH0 : H₀ D = none)
    (fin : ∀ σ' H' F' s1 vs, L2.Inv X' [] σ' H' s1 → Ext F1 H2 F' H' → H' D = some (.lst vs) → ¬ F' D → RepL X'.K F' H' ys vs → R (.ok .next) s1)
    {s : Shared} {σ : L2.St} {H : Hp} {F : Addr → Prop} {ε : Ev} (I : L2.Inv X' [] σ H s) (st : tn 0 s.heap) (fr : ∀ b ∈ fp, H b = none) (x : Ext F1 H2 F H) (r : RelE X'.K F₀ H₀ O F H ε σ) (hD : H D = some (.lst [])) (nD : ¬ F D) (ey : compL gg cc ee ts ε = some ys) :
    codeAny (model X'.prog X'.w) X'.A (.compLoop (.ListComp elt [⟨tg, iter, ifs, 0⟩] scope pos) 0 (.ref it') (.ref D) X'.env) R s := by
  refine compLoop_any (fun n s' => ∃ i σ' H' F' ε' dn vs, n = ts.length - i ∧ i ≤ ts.length ∧ L2.Inv X' [] σ' H' s' ∧ tn i s'.heap ∧ (∀ b ∈ fp, H' b = none) ∧ Ext F1 H2 F' H' ∧ RelE X'.K F₀ H₀ O F' H' ε' σ' ∧ H' D = some (.lst vs) ∧ ¬ F' D ∧ RepL X'.K F' H' dn vs ∧ dn.length ≤ i ∧
    ∃ rest, compL gg cc ee (ts.drop i) ε' = some rest ∧ ys = dn ++ rest) ?_ ts.length ⟨0, σ, H, F, ε, [], [], rfl, Nat.zero_le _, I, st, fr, x, r, hD, nD, RepL.nil, Nat.le_refl _, ys, by simpa using ey, by simp⟩
  rintro n s3 ⟨i, σ3, H3, F3, ε3, dn, vs, rfl, hi, I3, st3, fr3, x3, r3, hD3, nD3, q3, hl3, rest, er, es⟩
  have nf : ∀ {F4 : Addr → Prop} {H4 : Hp} {F5 : Addr → Prop} {H5 : Hp} {o : HO}, Ext F4 H4 F5 H5 → H4 D = some o → ¬ F4 D → ¬ F5 D := fun y e n z => by
    rcases y.new D z with q | q
    · exact n q
    · rw [e] at q
      cases q
  by_cases hlt : i < ts.length
  · have hd : ts.drop i = ts[i] :: ts.drop (i + 1) := List.drop_eq_getElem_cons hlt
    have hg' : ts[i]? = some ts[i] := List.getElem?_eq_getElem hlt
    rw [hd] at er
    simp only [compL, Option.bind_eq_some_iff] at er
    obtain ⟨ε4, eg, b, eb, er⟩ := er
    refine wpAny_mono (T.item X' rfl rfl rfl hc i [] s3 σ3 H3 (fun _ _ => False) I3 (stat H3 fr3) st3 (ok.go i F3 H3 _ x3.kp r3.dom hg')) (fun rv s4 ⟨u, hr, h4⟩ => ?_) fun _ _ z => z
    subst hr
    refine wpAny_mono h4 (fun _ s5 ⟨x', H5, I5, r5, y5, st5, fr5⟩ => ?_) fun _ _ z => z
    obtain ⟨F5, x5, rx⟩ := ok.yld i F3 H3 _ x' H5 x3.kp r3.dom hg' y5
    have I5' := I5.pinned (stat H5 fr5) (T.obj _ _ st5)
    have hg2 := hg _ s5 σ3 H5 x' u (fun σ6 H6 => H6 = H5 ∧ RelE X'.K F₀ H₀ O F5 H5 ε4 σ6) I5' r5 ⟨F₀, H₀, O, F5, ε3, _, ε4, r3.ext x5, rx, eg, fun σ6 r6 => ⟨rfl, r6⟩⟩
    rw [hx] at hg2
    refine wpAny_mono hg2 (fun _ s6 ⟨σ6, H6, I6, e6, r6⟩ => ?_) fun _ _ z => z
    subst e6
    have again : ∀ {σ7 : L2.St} {H7 : Hp} {s7 : Shared}, L2.Inv X' ([] ++ pinsAt fp s5.heap) σ7 H7 s7 → tn (i + 1) s7.heap ∧ (∀ b ∈ fp, H7 b = none) ∧ L2.Inv X' [] σ7 H7 s7 := fun {σ7 H7 s7} I7 => by
      refine ⟨T.keep _ _ _ st5 fun b hb o e => (I7.pin (b, o) (List.mem_append_right _ (List.mem_append_right _ (mem_pinsAt hb e)))).1, fun b hb => ?_, I7.unpinned⟩
      obtain ⟨o, e, d⟩ := T.obj _ _ st5 b hb
      exact (I7.pin (b, o) (List.mem_append_right _ (List.mem_append_right _ (mem_pinsAt hb e)))).2.1
    have ht2 := ht _ s6 σ6 H6 (fun b' H7 => b' = b ∧ ∃ F7, Ext F5 H6 F7 H7) I6 ⟨F₀, H₀, O, F5, ε4, b, r6, eb, fun F7 H7 x7 => ⟨rfl, F7, x7⟩⟩
    rw [hx] at ht2
    refine wpAny_mono ht2 (fun ok' s7 ⟨H7, I7, e7, F7, x7⟩ => ?_) fun _ _ z => z
    subst e7
    have x37 := x5.trans x7
    have r7 := r6.ext x7
    cases ok' with
    | false =>
      simp only [Bool.false_eq_true, if_false] at er ⊢
      obtain ⟨a1, a2, a3⟩ := again I7
      exact ⟨_, by omega, i + 1, σ6, H7, F7, ε4, dn, vs, rfl, hlt, a3, a1, a2, x3.trans x37, r7, x37.same _ _ hD3, nf x37 hD3 nD3, q3.ext x37, by omega, rest, er, es⟩
    | true =>
      simp only [if_true, Option.bind_eq_some_iff, Option.map_eq_some_iff] at er ⊢
      obtain ⟨y, ey', rest', er', rfl⟩ := er
      have he2 := he _ s7 σ6 H7 (fun v H8 => ∃ F8, Ext F7 H7 F8 H8 ∧ Rep X'.K F8 H8 y v) I7 ⟨F₀, H₀, O, F7, ε4, y, r7, ey', fun v F8 H8 x8 q8 => ⟨F8, x8, q8⟩⟩
      rw [hx] at he2
      refine wpAny_mono he2 (fun u8 s8 ⟨v8, H8, I8, r8, F8, x8, q8⟩ => ?_) fun _ _ z => z
      have x38 := x37.trans x8
      have hD8 := x38.same _ _ hD3
      have nD8 := nf x38 hD3 nD3
      obtain ⟨kp9, r9⟩ := (r7.ext x8).other (ys := vs ++ [v8]) nD8 hO hH0 hD8
      have ha := mt_append (X := X') _ s8 σ6 H8 (.ref D) [v8] (.ref D) [u8] (fun _ H9 => H9 = upd H8 D (.lst (vs ++ [v8]))) I8 rfl (.cons r8 .nil) ⟨D, vs, v8, rfl, rfl, hD8, by rw [sizeL, ← q3.length]; omega, rfl⟩
      rw [hx] at ha
      refine wpAny_mono ha (fun u9 s9 ⟨v9, H9, I9, r9', e9⟩ => ?_) fun _ _ z => z
      subst e9
      obtain ⟨a1, a2, a3⟩ := again I9
      have x9 : Ext F1 H2 F8 (upd H8 D (.lst (vs ++ [v8]))) := by
        have y := x3.trans x38
        refine ⟨fun b o e => ?_, y.sub, y.new, fun b f => ?_⟩
        · have nb : b ≠ D := by
            rintro rfl
            rw [hD2] at e
            cases e
          rw [upd_ne nb]
          exact y.same b o e
        · have nb : b ≠ D := by
            rintro rfl
            exact nD8 f
          rw [upd_ne nb]
          exact y.dom b f
      refine ⟨_, by omega, i + 1, σ6, _, F8, ε4, dn ++ [y], vs ++ [v8], rfl, hlt, a3, a1, a2, x9, r9, upd_same, nD8, ((q3.ext x38).append (RepL.cons q8 RepL.nil)).kp kp9, by simp; omega, rest', er', by rw [es]; simp⟩
  · have hd : ts.drop i = [] := List.drop_eq_nil_of_le (by omega)
    rw [hd] at er
    cases er
    refine wpAny_mono (T.done X' rfl rfl rfl hc i [] s3 σ3 H3 (fun _ _ => False) I3 (stat H3 fr3) st3 (ok.stop i F3 H3 x3.kp (by omega))) (fun rv s4 ⟨hr, I4⟩ => ?_) fun _ _ z => z
    subst hr
    exact fin σ3 H3 F3 s4 vs I4 x3 hD3 nD3 (by rw [es, List.append_nil]; exact q3)
/-- what stands behind the block -/
structure After (X : Cx) (pins : List (Addr × Obj)) (σ : L2.St) (F : Addr → Prop) (H : Hp) (ys : List T) (D C : Addr) (H' : Hp) (F' : Addr → Prop) (s1 : Shared) (vs : List V) : Prop where
  inv : ∀ h', Heap.SameBut C s1.heap h' → L2.Inv X pins σ H' { s1 with heap := h' }
  ns : ∃ m, s1.heap.Ns C m
  free : H' C = none
  above : X.s₀.heap.objs.size ≤ C
  cells : ∀ x c, X.env.cells.lookup x = some c → c ≠ C
  pin : ∀ p ∈ X.pn ++ pins, p.1 ≠ C
  loc : C ≠ X.env.locals
  new : H D = none
  ext : Ext F H F' H'
  nf : ¬ F' D
  lst : H' D = some (.lst vs)
  rep : RepL X.K F' H' ys vs
theorem comp_run {use : Option (Value → Sem Unit)} {Q : Value → Shared → Prop} {p2 : Pos} (S : CompOk X scope own caps) (hi : PIt X tg iter it)
    (hg : ∀ cl C s₀ H₀ fp pn, PGt (compCx X (own ++ caps.map (·.2)) scope cl C s₀ H₀ fp pn) tg gg)
    (ht : ∀ cl C s₀ H₀ fp pn, PTs (compCx X (own ++ caps.map (·.2)) scope cl C s₀ H₀ fp pn) ifs cc)
    (he : ∀ cl C s₀ H₀ fp pn, PEv (compCx X (own ++ caps.map (·.2)) scope cl C s₀ H₀ fp pn) elt ee)
    (hs : ∀ x, foldedSetIterable iter X.env x = pure x) {pins : List (Addr × Obj)} {s : Shared} {σ : L2.St} {H : Hp} {F₀ O F : Addr → Prop} {H₀ : Hp} {ε : Ev} {ys : List T} (I : L2.Inv X pins σ H s) (r : RelE X.K F₀ H₀ O F H ε σ)
    (e : comp own.length (caps.map (·.1)) it gg cc ee ε = some (.list ys)) (fin : ∀ D C H' F' s1 vs, After X pins σ F H ys D C H' F' s1 vs → compPost (model X.prog X.w) X.A X.xe use Q (.ref D) C (.ok .next) s1) :
    wpAny (model X.prog X.w) X.A (comprehension (.ListComp elt [⟨tg, iter, ifs, 0⟩] scope pos) scope X.env p2 (newList []) false (eval iter X.env) use) Q X.xe s := by
  simp only [comp, Option.bind_eq_some_iff] at e
  obtain ⟨ts, et, e⟩ := e
  split at e
  case isFalse => cases e
  next hbig =>
  simp only [Option.map_eq_some_iff] at e
  obtain ⟨ys', ey, e⟩ := e
  cases e
  have hcl : ∀ x ∈ scope.names, x.2 = .free → ∃ c, X.env.cells.lookup x.1 = some c := fun x hx hk => I.ok.has x.1 (S.free x hx hk)
  refine wpAny_comprehension_free rfl hs (closureFor_eq hcl) S.kind S.names (thn (hi pins s σ H (fun J H1 => ∃ F1, Ext F H F1 H1 ∧ ItOk X.K J F1 H1 ts) I ⟨F₀, H₀, O, F, ε, ts, r, et, fun J F1 H1 x1 ok => ⟨F1, x1, ok⟩⟩) fun v s1 h1 => thn h1 fun itv s2 h2 => ?_)
  obtain ⟨it', fp, tn, J, H2, rfl, I2, T, st2, f2, F1, x1, ok⟩ := h2
  have hfp : ∀ b ∈ fp, b < s2.heap.objs.size := fun b hb => by
    obtain ⟨o, ho, _⟩ := T.obj 0 _ st2 b hb
    exact Heap.lt_size ho
  have hD2 : H2 s2.heap.objs.size = none := I2.fresh
  have hD : H s2.heap.objs.size = none := by
    cases z : H s2.heap.objs.size with
    | none => rfl
    | some w =>
      rw [x1.same _ w z] at hD2
      cases hD2
  have sz : (s2.heap.push { cls := .type "list", data := .seq ([] : List Value).toArray }).objs.size = s2.heap.objs.size + 1 := Heap.size_push ..
  refine wpAny_newList ?_ (Nat.zero_le _)
  refine wpAny_newFunctionEnv S.cell (by intro y hy; simp at hy) (fun h₁ hns₁ hsb₁ => ?_) S.kind
  have keep : ∀ b u, (s2.heap.push { cls := .type "list", data := .seq ([] : List Value).toArray }).get? b = some u → h₁.get? b = some u := fun b u e => hsb₁.extBut b u (Nat.ne_of_lt (Heap.lt_size e)) (Heap.get?_push_of_some _ e)
  have I4 := comp_inv (tk := s2.toks + 0) S I2 f2 hfp hns₁ keep
  have r4 := (r.ext x1).cap (D := s2.heap.objs.size) own.length S.nd hD2
  refine codeAny_compStart_list ?loop (T.self _ 0 _ _ _ (T.keep 0 _ _ st2 fun b hb o e => keep b o (Heap.get?_push_of_some _ e)) ?loop)
  refine comp_loop (X' := compCx X (own ++ caps.map (·.2)) scope (clos X.env scope.names []) (s2.heap.push { cls := .type "list", data := .seq ([] : List Value).toArray }).objs.size { s2 with heap := s2.heap.push { cls := .type "list", data := .seq ([] : List Value).toArray } } (upd H2 s2.heap.objs.size (.lst [])) fp (X.pn ++ pins))
    rfl S.calm (hg _ _ _ _ _ _) (ht _ _ _ _ _ _) (he _ _ _ _ _ _) T (fun H' hn b hb => ?_) ok hbig hD2 (fun z => z.2 rfl) (r.o0 _ (r.fr _ hD)) (fun σ' H' F' s1 vs J1 x' hD' nD' q' => ?_) I4 (T.keep 0 _ _ st2 fun b hb o e => keep b o (Heap.get?_push_of_some _ e)) (fun b hb => ?_) (Ext.laid x1.dom hD2) r4 upd_same ?_ ey
  · have okX := comp_ok S I2 f2 hfp (own ++ caps.map (·.2))
    refine ⟨hn b hb, (okX.exf b hb).1, okX.exfs b hb, .inl hb, fun x c e => (okX.exf b hb).2 x c e, fun p hp => ?_⟩
    have hp' : p ∈ X.pn ++ pins := by simpa [compCx] using hp
    exact (f2 b hb).2.2.2.2.2 p hp'
  · obtain ⟨m, hn, _⟩ := id J1.loc
    refine fin s2.heap.objs.size _ H' F' s1 vs ⟨fun h' sb => comp_after I2 f2 J1 sb, ⟨m, hn⟩, J1.free, ?_, fun x c e z => ?_, fun p hp z => ?_, ?_, hD, x1.trans x', nD', hD', q'⟩
    · rw [sz]
      exact Nat.le_succ_of_le I2.sz
    · obtain ⟨v, q⟩ := I2.cell x c e
      have := q.lt
      rw [z, sz] at this
      exact absurd this (Nat.not_lt.mpr (Nat.le_succ _))
    · have := Heap.lt_size (I2.pin p hp).1
      rw [z, sz] at this
      exact absurd this (Nat.not_lt.mpr (Nat.le_succ _))
    · have := I2.lt
      rw [sz]
      exact Nat.ne_of_gt (Nat.lt_succ_of_lt this)
  · have := (f2 b hb).1
    rw [upd_ne (Nat.ne_of_lt (hfp b hb))]
    exact this
  · intro z
    obtain ⟨o, e⟩ := x1.dom _ z
    rw [hD2] at e
    cases e
/-- [elt for tg in iter if ..] -/
theorem q_comp (S : CompOk X scope own caps) (hi : PIt X tg iter it)
    (hg : ∀ cl C s₀ H₀ fp pn, PGt (compCx X (own ++ caps.map (·.2)) scope cl C s₀ H₀ fp pn) tg gg)
    (ht : ∀ cl C s₀ H₀ fp pn, PTs (compCx X (own ++ caps.map (·.2)) scope cl C s₀ H₀ fp pn) ifs cc)
    (he : ∀ cl C s₀ H₀ fp pn, PEv (compCx X (own ++ caps.map (·.2)) scope cl C s₀ H₀ fp pn) elt ee)
    (hs : ∀ x, foldedSetIterable iter X.env x = pure x := by intro _; rfl) : PEn X (.ListComp elt [⟨tg, iter, ifs, 0⟩] scope pos) (comp own.length (caps.map (·.1)) it gg cc ee) := by
  intro pins s σ H Q I ⟨F₀, H₀, O, F, ε, ys, r, e, k⟩
  rw [eval_ListComp]
  refine comp_run S hi hg ht he hs I r e fun D C H' F' s1 vs a => ?_
  obtain ⟨m, hn⟩ := a.ns
  exact ⟨m, hn, fun h' sb => ⟨.ref D, H', a.inv h' sb, rfl, k D vs F' H' a.ext a.new a.nf a.lst a.rep⟩⟩
theorem comp_list {ε : Ev} {n : Nat} {cs : List Nat} {t : T} (e : comp n cs it gg cc ee ε = some t) : ∃ ts, t = .list ts := by
  simp only [comp, Option.bind_eq_some_iff] at e
  obtain ⟨ts, _, e⟩ := e
  split at e
  · simp only [Option.map_eq_some_iff] at e
    obtain ⟨ys, _, e⟩ := e
    exact ⟨ys, e.symm⟩
  · cases e
theorem q_compV (S : CompOk X scope own caps) (hi : PIt X tg iter it)
    (hg : ∀ cl C s₀ H₀ fp pn, PGt (compCx X (own ++ caps.map (·.2)) scope cl C s₀ H₀ fp pn) tg gg)
    (ht : ∀ cl C s₀ H₀ fp pn, PTs (compCx X (own ++ caps.map (·.2)) scope cl C s₀ H₀ fp pn) ifs cc)
    (he : ∀ cl C s₀ H₀ fp pn, PEv (compCx X (own ++ caps.map (·.2)) scope cl C s₀ H₀ fp pn) elt ee)
    (hs : ∀ x, foldedSetIterable iter X.env x = pure x := by intro _; rfl) : PEv X (.ListComp elt [⟨tg, iter, ifs, 0⟩] scope pos) (comp own.length (caps.map (·.1)) it gg cc ee) :=
  n2v (q_comp S hi hg ht he hs) fun ε t e => comp_list e
/-- x = [elt for tg in iter if ..], the store amid the comprehension -/
theorem s_asgC (i : Nat) {x : Str} {px spos : Pos} (hN : X.N.Nodup) (S : CompOk X scope own caps) (hit : PIt X tg iter it)
    (hg : ∀ cl C s₀ H₀ fp pn, PGt (compCx X (own ++ caps.map (·.2)) scope cl C s₀ H₀ fp pn) tg gg)
    (ht : ∀ cl C s₀ H₀ fp pn, PTs (compCx X (own ++ caps.map (·.2)) scope cl C s₀ H₀ fp pn) ifs cc)
    (he : ∀ cl C s₀ H₀ fp pn, PEv (compCx X (own ++ caps.map (·.2)) scope cl C s₀ H₀ fp pn) elt ee)
    (hi : X.N[i]? = some x := by rfl) (hx : Loc X.env.scope x := by first | exact Or.inl rfl | exact Or.inr rfl)
    (hsw : swapsWith (.ListComp elt [⟨tg, iter, ifs, 0⟩] scope pos) (some (.Name x px)) spos.line X.env = pure true := by rfl)
    (hf : X.fn x = true ∨ X.env.scope.names.lookup x = some .local := by first | exact .inl rfl | exact .inr rfl)
    (hs : ∀ x, foldedSetIterable iter X.env x = pure x := by intro _; rfl) :
    PSt X (.Assign [.Name x px] (.ListComp elt [⟨tg, iter, ifs, 0⟩] scope pos) spos) (asg i (comp own.length (caps.map (·.1)) it gg cc ee)) := by
  intro pins s σ H D I ⟨F₀, H₀, O, F, ε, o, r, e, k⟩
  simp only [asg, Option.map_eq_some_iff] at e
  obtain ⟨t, et, rfl⟩ := e
  obtain ⟨ys, rfl⟩ := comp_list et
  rw [exec_Assign_Name_used _ _ _ _ hsw]
  refine wpAny_bind (wpAny_standAt (wpAny_bind ?_))
  show wpAny _ X.A (do let _ ← comprehension (.ListComp elt [⟨tg, iter, ifs, 0⟩] scope pos) scope X.env _ (newList []) false (eval iter X.env) (some (assign (.Name x px) X.env))) _ _ s
  refine wpAny_bind (thn (comp_run (use := some (assign (.Name x px) X.env)) (Q := fun _ s' => SP X pins D .next s') S hit hg ht he hs I r et fun D' C H' F' s1 vs a => ?_) fun _ s' hq => wpAny_pure (wpAny_pure hq))
  have IX := a.inv s1.heap (Heap.SameBut.refl ..)
  have IX' : L2.Inv X pins σ H' s1 := IX
  show wpAny _ X.A (assign (.Name x px) X.env (.ref D')) _ _ _
  refine wpAny_assign_Name (store_ok2 (v := .ref D') IX' hN hi hx rfl (fun s2 I2 ⟨b, sb, hb⟩ => ?_) hf)
  obtain ⟨m, hn⟩ := a.ns
  have nb : C ≠ b := by
    rcases hb with rfl | hb
    · exact a.loc
    · exact (a.cells x b hb).symm
  refine ⟨m, hn.sameBut sb nb, fun h' sb' => ?_⟩
  have I3 : L2.Inv X pins (σ.set i (some (.ref D'))) H' { s2 with heap := h' } := I2.turned (t' := s2.toks) (it := C) (fun b o hb e => sb'.extBut b o hb e) a.free a.loc (.inr a.above) a.cells a.pin
  refine ⟨_, H', I3, ?_⟩
  have y : Ext F H (fun b => F' b ∨ b = D') H' := ⟨a.ext.same, fun b z => .inl (a.ext.sub b z), fun b z => by
    rcases z with z | rfl
    · exact a.ext.new b z
    · exact .inr a.new, fun b z => by
    rcases z with z | rfl
    · exact a.ext.dom b z
    · exact ⟨_, a.lst⟩⟩
  refine k _ _ H' y.kp ((r.ext y).set i ?_)
  simp only [Rep]
  exact ⟨D', vs, rfl, .inr rfl, .inl a.lst, a.rep.keep (fun _ _ z => z) fun b _ z w => ⟨.inl z, w⟩⟩
end
end D
end
section
set_option linter.all false
set_option Elab.async false
set_option maxRecDepth 100000
set_option autoImplicit false
namespace D
open PySem PySem.Spec PyProof.Rows L2
open AutoSeq1 (wpAny_loadPart')

/-! ### enumerate(t), t a tuple -/
theorem meets_enumerate_newT (l : Addr) (items : Array Value) (n : Nat) (dct : Option Addr) (sl : Array (Option Value)) :
    Meets (Builtin.«enumerate.__new__» ⟨[.type "enumerate", .ref l], []⟩) (fun _ R s => s.heap.get? l = some { cls := .type "tuple", dict := dct, data := .seq items n, slots := sl } ∧
      R (.ok (.ret (.ref (s.heap.push { cls := .type "tuple_iterator", data := .fields #[.ref l, .int 0 0] }).objs.size)))
        { s with heap := (s.heap.push { cls := .type "tuple_iterator", data := .fields #[.ref l, .int 0 0] }).push { cls := .type "enumerate", data := .fields #[.none, .bool false, .ref s.heap.objs.size, rawInt 0, .none, .none] } }) :=
  .of_wp fun prog w A R s h => by
    obtain ⟨hp, g, d, tk, os⟩ := s; obtain ⟨hl, h⟩ := h
    have hsub := sub_enumerate
    have hL : Heap.IsTuple (Shared.heap ⟨hp, g, d, tk, os⟩) l items := ⟨_, hl, rfl, n, rfl⟩
    wp_walk using wpAny_loadPart' hl
    refine wpAny_stack_any fun st => wpAny_pure ?_
    split
    · rename_i c _ _ _ _ _
      cases (c == Value.type "enumerate")
      · wp_walk using wpAny_loadPart' hl, wpAny_pyIter_tuple hL
        exact ⟨_, rfl, h⟩
      · wp_walk using wpAny_loadPart' hl, wpAny_pyIter_tuple hL
        exact ⟨_, rfl, h⟩
    · wp_walk using wpAny_loadPart' hl, wpAny_pyIter_tuple hL
      exact ⟨_, rfl, h⟩
section
variable {prog : Program} {w : World} {A : Around} {E : Value → Shared → Prop} {s : Shared}
theorem call_enumerate_tuple {l : Addr} {items : Array Value} {Q : Value → Shared → Prop} (hL : s.heap.IsTuple l items)
    (h : ∀ h', IsEnum h' (s.heap.objs.size + 1) s.heap.objs.size 0 .none → h'.IsTupleIter s.heap.objs.size l 0 → h'.objs.size = s.heap.objs.size + 2 →
      (∀ b o, s.heap.get? b = some o → h'.get? b = some o) → Q (.ref (s.heap.objs.size + 1)) { s with heap := h' }) :
    wpAny (model prog w) A (call (.type "enumerate") [.ref l]) Q E s := by
  obtain ⟨⟨c, dct, dt, sl⟩, hl, hc, n, hd⟩ := hL
  replace hc : c = .type "tuple" := hc
  replace hd : dt = .seq items n := hd
  subst hc hd
  refine callType_new F.called_enumerate (by decide) (F.typeCall_enumerate_1 _) (F.newCall_enumerate_1 _) (fun obj => F.args_object_init_2 obj _) F.entry_enumerate_new
    (meets_enumerate_newT l items n dct sl) ⟨hl, ?_⟩
  have hz : (s.heap.push { cls := .type "tuple_iterator", data := .fields #[.ref l, .int 0 0] }).objs.size = s.heap.objs.size + 1 := Heap.size_push ..
  show _ ∧ _
  rw [hz]
  have he : IsEnum ((s.heap.push { cls := .type "tuple_iterator", data := .fields #[.ref l, .int 0 0] }).push
      { cls := .type "enumerate", data := .fields #[.none, .bool false, .ref s.heap.objs.size, rawInt 0, .none, .none] }) (s.heap.objs.size + 1) s.heap.objs.size 0 .none := by
    have := Heap.get?_push_size (s.heap.push { cls := .type "tuple_iterator", data := .fields #[.ref l, .int 0 0] })
      (o := { cls := .type "enumerate", data := .fields #[.none, .bool false, .ref s.heap.objs.size, rawInt 0, .none, .none] }) rfl
    rw [hz] at this; exact this
  refine ⟨⟨_, he, rfl⟩, h _ he ⟨_, Heap.get?_push_of_some _ (Heap.get?_push_size _ rfl), rfl, rfl⟩ (by rw [Heap.size_push, hz]) fun b o x => Heap.get?_push_of_some _ (Heap.get?_push_of_some _ x)⟩
theorem nextOf_tuple_item {it l : Addr} {i : Nat} {items} {x : Value} {Q : Value → Shared → Prop} (hit : s.heap.IsTupleIter it l i)
    (hl : s.heap.IsTuple l items) (hx : items[i]? = some x)
    (hQ : ∀ h', h'.IsTupleIter it l (i + 1) → Heap.SameBut it s.heap h' → Q x { s with heap := h' }) :
    wpAny (model prog w) A (Builtin.SmallTypes.nextOf (.ref it)) Q E s := by
  obtain ⟨o, ho, hc, hd⟩ := id hit
  obtain ⟨ol, hol, _, nl, hdl⟩ := hl
  unfold Builtin.SmallTypes.nextOf
  refine wpAny_bind (wpAny_callSpecial?_slot (name := Str.ofString "__next__") hit.typeIs F.slot_tuple_iterator_next
    (wpAny_call_entry F.slot_tuple_iterator_next hit.typeIs F.entry_tuple_iterator_next ?_ (F.args_tuple_iterator_next_1 _)))
  show wpAny _ _ (field (.ref it) 0 >>= _) _ _ s
  refine wpAny_bind (wpAny_field ho hd (x := .ref l) rfl ?_)
  show wpAny _ _ (if (Value.ref l == Value.none) = true then _ else _) _ _ s
  rw [if_neg (show ¬ ((Value.ref l == Value.none) = true) from Bool.false_ne_true)]
  show wpAny _ _ (field (.ref it) 1 >>= _) _ _ s
  refine wpAny_bind (wpAny_field ho hd (x := .int i 0) rfl ?_)
  show wpAny _ _ (seqItems? (.ref l) >>= _) _ _ s
  refine wpAny_bind (wpAny_seqItems hol hdl ?_)
  simp only [Int.toNat_natCast, hx]
  refine wpAny_bind (wpAny_setField ho hd (by simp) (wpAny_pure ⟨x, rfl, wpAny_pure (hQ _ ?_ (Heap.SameBut.update ..))⟩))
  exact ⟨_, Heap.get?_update_self _ ho (Obj.isFreed_of_fields (Obj.data_mapFields hd _)), (Obj.cls_mapFields ..).trans hc, by
    rw [Obj.data_mapFields hd]; simp [rawInt]⟩
theorem nextOf_tuple_end {it l : Addr} {i : Nat} {items} {Q : Value → Shared → Prop} (hh : A.handled = none)
    (hit : s.heap.IsTupleIter it l i) (hl : s.heap.IsTuple l items) (hx : items[i]? = none)
    (hE : ∀ h' e, Heap.ExtBut it s.heap h' → (∃ o, h'.get? e = some o ∧ o.cls = .type "StopIteration") → E (.ref e) { s with heap := h' }) :
    wpAny (model prog w) A (Builtin.SmallTypes.nextOf (.ref it)) Q E s := by
  obtain ⟨o, ho, hc, hd⟩ := id hit
  obtain ⟨ol, hol, _, nl, hdl⟩ := hl
  unfold Builtin.SmallTypes.nextOf
  refine wpAny_bind (wpAny_callSpecial?_slot (name := Str.ofString "__next__") hit.typeIs F.slot_tuple_iterator_next
    (wpAny_call_entry F.slot_tuple_iterator_next hit.typeIs F.entry_tuple_iterator_next ?_ (F.args_tuple_iterator_next_1 _)))
  show wpAny _ _ (field (.ref it) 0 >>= _) _ _ s
  refine wpAny_bind (wpAny_field ho hd (x := .ref l) rfl ?_)
  show wpAny _ _ (if (Value.ref l == Value.none) = true then _ else _) _ _ s
  rw [if_neg (show ¬ ((Value.ref l == Value.none) = true) from Bool.false_ne_true)]
  show wpAny _ _ (field (.ref it) 1 >>= _) _ _ s
  refine wpAny_bind (wpAny_field ho hd (x := .int i 0) rfl ?_)
  show wpAny _ _ (seqItems? (.ref l) >>= _) _ _ s
  refine wpAny_bind (wpAny_seqItems hol hdl ?_)
  simp only [Int.toNat_natCast, hx]
  refine wpAny_bind (wpAny_rule (wpAny_bind (wpAny_setField ho hd (by simp) ?_)))
  show wpAny _ _ (newExc (.type "StopIteration") [] >>= _) _ _ _
  refine wpAny_bind ?_
  simp only [newExc, newTuple]
  refine wpAny_bind (wpAny_newObj_type ?_ (by size_fits))
  refine wpAny_bind (m := firstArgMember _ _) (wpAny_of_eq (a := Value.none) (by first | rfl | (simp only [firstArgMember]; rfl)) ?_)
  refine wpAny_newObj_type ?_ (by size_fits)
  simp only [raiseNew]
  refine wpAny_bind (wpAny_handled ?_)
  first | rw [show A.in1.handled = none from hh] | rw [hh]
  refine wpAny_bind (wpAny_pure (wpAny_throw ?_))
  exact hE _ _ (((Heap.SameBut.update ..).extBut.push _).push _) ⟨_, Heap.get?_push_size _ rfl, rfl⟩
end
theorem draws_tuple {prog : Program} {w : World} {A : Around} (hh : A.handled = none) (it l : Addr) (hne : l ≠ it) (items : Array Value) :
    Draws prog w A it [it, l] items.size (fun i v => items[i]? = some v) (fun i h => h.IsTupleIter it l i ∧ h.IsTuple l items) where
  live := fun _ _ st => let ⟨o, ho, _⟩ := st.1; ⟨o, ho⟩
  frame := fun _ _ _ st hk => ⟨st.1.at fun o e => hk it (by simp) o e, let ⟨o, ho, r⟩ := st.2; ⟨o, hk l (by simp) o ho, r⟩⟩
  item := fun i s Q E hi st hQ => by
    refine nextOf_tuple_item st.1 st.2 (x := items[i]) (by simp [hi]) fun h' hit' hs' => ?_
    exact hQ _ h' s.toks (by simp [hi]) ⟨hit', st.2.extBut hs'.extBut hne⟩ hs'
  done := fun s Q E st hE => nextOf_tuple_end hh st.1 st.2 (by simp) hE
/-- the pairs of a tuple's items -/
def Ite (K : PySem.W.Frag) (a : Addr) : It :=
  ⟨fun i H => ∃ xs x, SqT K H a xs ∧ xs[i]? = some x, fun i H x H' => ∃ p v, H p = none ∧ x = .ref p ∧ H' = upd H p (.tup [.int i, v]) ∧ ∀ xs, SqT K H a xs → xs[i]? = some v, fun i H => ∃ xs, SqT K H a xs ∧ xs.length ≤ i⟩
theorem turn_enum {P : Program} {w : World} {K : PySem.W.Frag} {es : List Expr} {k : Nat} {pos : Pos} (a it e : Addr) (hne : e ≠ it) (hai : a ≠ it) (hae : a ≠ e) : Turn P w K (.Tuple es k pos) (Ite K a) [e, it] e (fun i h => (∃ old, IsEnum h e it i old) ∧ h.IsTupleIter it a i) where
  mem := by simp
  obj := fun i h st b hb => by
    obtain ⟨⟨old, he⟩, o, ho, hc, hd⟩ := st
    rcases List.mem_cons.mp hb with rfl | hb
    · exact ⟨_, he, fun v z => by
        have z' : Data.fields _ = Data.cell v := z
        cases z'⟩
    · have e1 : b = it := by simpa using hb
      subst e1
      exact ⟨o, ho, fun v z => by rw [hd] at z; cases z⟩
  keep := fun i h h' st kk => by
    obtain ⟨⟨old, he⟩, st2⟩ := st
    exact ⟨⟨old, kk e (by simp) _ he⟩, st2.at fun o q => kk it (by simp) o q⟩
  item := by
    intro X hP hw hK hc i pins s σ H E I hf st hg
    subst hP hw hK
    obtain ⟨xs, x, hq, hx⟩ := hg
    obtain ⟨its, rv, p, hz⟩ := I.tuple hq
    obtain ⟨u, hu, ru⟩ := rv.get hx
    obtain ⟨⟨old, he⟩, hit⟩ := st
    obtain ⟨f0, f1, f2, f3, f4, f5⟩ := hf e (by simp)
    obtain ⟨g0, g1, g2, g3, g4, g5⟩ := hf it (by simp)
    have hi : i < its.toArray.size := by
      rw [List.size_toArray]
      exact (List.getElem?_eq_some_iff.mp hu).1
    have hnf : e ∉ [it, a] := by
      intro z
      rcases List.mem_cons.mp z with z | z
      · exact hne z
      · have z' : e = a := by simpa using z
        exact hae z'.symm
    refine wpAny_pyNext_enum_itemD (draws_tuple (A := X.A.in1) (I.ok.hd hc) it a hai its.toArray) he ⟨hit, p⟩ hi hne hnf fun x' h' tk hP' ho hs' hT hsz hk => ?_
    have ex : x' = u := by
      have := hP'
      rw [← Array.getElem?_toList] at this
      rw [show (its.toArray).toList = its from rfl, hu] at this
      exact (Option.some.inj this).symm
    subst ex
    refine ⟨_, rfl, wpAny_letOwnedTupleGo_enum ho fun h2 he2 hs2 => ?_⟩
    have helt : e < s.heap.objs.size := Heap.lt_size he
    have hilt : it < s.heap.objs.size := by obtain ⟨o, ho', _⟩ := hit; exact Heap.lt_size ho'
    -- the new tuple, e and it turned
    have k2 : ∀ b o, b ≠ e → b ≠ it → s.heap.get? b = some o → h2.get? b = some o := fun b o h1 h3 q => hs2.extBut b o h1 (hk b o h1 h3 q)
    have fr : H s.heap.objs.size = none := I.hok.fresh (Nat.le_refl _)
    have hT2 : h2.get? s.heap.objs.size = some { cls := .type "tuple", data := .seq #[.int i tk, x'] } := hs2.extBut _ _ (Nat.ne_of_gt helt) hT
    have nH : ∀ b o, H b = some o → b ≠ e ∧ b ≠ it := fun b o q => ⟨fun z => (by rw [z, f0] at q; cases q), fun z => (by rw [z, g0] at q; cases q)⟩
    have hok2 : HOk X.prog X.w (upd H s.heap.objs.size (.tup [.int i, x])) h2 := by
      intro b o q
      by_cases hb : b = s.heap.objs.size
      · subst hb
        rw [upd_same] at q
        cases q
        exact ⟨by show 2 ≤ sizeLine; decide, [.int i tk, x'], .cons ⟨tk, rfl⟩ (.cons ru .nil), ⟨_, hT2, rfl, _, rfl⟩⟩
      · rw [upd_ne hb] at q
        refine (I.hok b o q).stay (fun c v hc' q' => k2 c v ?_ ?_ q') (fun c q' => ?_) fun c ys q' => ?_
        · rcases hc' with rfl | hc'
          · exact (nH _ _ q).1
          · exact (nH _ _ hc').1
        · rcases hc' with rfl | hc'
          · exact (nH _ _ q).2
          · exact (nH _ _ hc').2
        · rw [upd_ne (ne_of_none q' fr)]
          exact q'
        · rw [upd_ne (ne_of_none q' fr)]
          exact q'
    have I2 : L2.Inv X pins σ (upd H s.heap.objs.size (.tup [.int i, x])) { s with heap := h2, toks := tk + 1 } := by
      refine I.step (g' := s.gens) (d' := s.drawn) (ch := [e, it]) (fun b hb => ?_) (fun b o _ _ hc' q _ => k2 b o (fun z => hc' (by simp [z])) (fun z => hc' (by simp [z])) q) (fun b o _ _ hc' q _ => ⟨o.slots, k2 b o (fun z => hc' (by simp [z])) (fun z => hc' (by simp [z])) q⟩) (fun b o _ q n => ?_)
        (fun b o hc' q => ⟨o, k2 b o (fun z => hc' (by simp [z])) (fun z => hc' (by simp [z])) q⟩) (fun b ys q => by rw [upd_ne (ne_of_none q fr)]; exact q) (fun b o u q => by rw [upd_ne (ne_of_none q fr)]; exact q) (fun b ps q => ⟨#[], by rw [upd_ne (ne_of_none q fr), q]; simp⟩) (fun m hm => ?_) hok2 I.bare
      · rcases List.mem_cons.mp hb with rfl | hb
        · exact ⟨f3, f1, f4, f5⟩
        · have : b = it := by simpa using hb
          subst this
          exact ⟨g3, g1, g4, g5⟩
      · rw [upd_ne (Nat.ne_of_lt (Heap.lt_size q))]
        exact n
      · obtain ⟨o, es', ep, ho', r⟩ := hm
        exact ⟨o, es', ep, k2 _ o (Ne.symm f1) (Ne.symm g1) ho', r⟩
    refine ⟨.ref s.heap.objs.size, _, I2, rfl, ⟨s.heap.objs.size, x, fr, rfl, rfl, fun ys hy => by rw [I.tuple_inj hy hq]; exact hx⟩, ⟨⟨_, by simpa using he2⟩, hs'.1.at fun o q => (hs2.2 it hne.symm).trans q⟩, fun b hb => ?_⟩
    rcases List.mem_cons.mp hb with rfl | hb
    · rw [upd_ne (Nat.ne_of_lt helt)]
      exact f0
    · have : b = it := by simpa using hb
      subst this
      rw [upd_ne (Nat.ne_of_lt hilt)]
      exact g0
  done := by
    intro X hP hw hK hc i pins s σ H E I hf st hg
    subst hP hw hK
    obtain ⟨xs, hq, hx⟩ := hg
    obtain ⟨its, rv, p, hz⟩ := I.tuple hq
    obtain ⟨⟨old, he⟩, hit⟩ := st
    obtain ⟨g0, g1, g2, g3, g4, g5⟩ := hf it (by simp)
    have hT : s.TypeIs (.ref e) "enumerate" := ⟨_, he, rfl⟩
    have hl := rv.length
    unfold pyNext
    refine wpAny_bind (wpAny_attempt (wpAny_callSpecial?_slot (name := Str.ofString "__next__") hT F.slot_enumerate_next
      (wpAny_call_entry F.slot_enumerate_next hT F.entry_enumerate_next ?_ (F.args_enumerate_next_1 _))))
    show wpAny _ _ (field (.ref e) 2 >>= _) _ _ _
    refine wpAny_bind (wpAny_field he rfl (x := .ref it) rfl ?_)
    refine wpAny_bind (nextOf_tuple_end (I.ok.hd hc) hit (show s.heap.IsTuple a its.toArray from p) (by simp; omega) fun h' x he' hx' => ?_)
    obtain ⟨o, ho, hc'⟩ := hx'
    refine wpAny_bind (wpAny_isInstance (T := "StopIteration") (b := true) ⟨o, ho, hc'⟩ isSubtype_stop ?_)
    exact wpAny_pure ⟨rfl, I.turned (t' := s.toks) (fun b o hb q => he' b o hb q) g0 g1 g3 g4 g5⟩
  self := fun _ _ _ _ _ st h => by
    obtain ⟨⟨old, he⟩, _⟩ := st
    exact wpAny_pyIter_enum he h
def iEn (K : PySem.W.Frag) (ta : TA) : TI := fun σ H R => ta σ H fun vs H1 => ∃ a xs, vs = [.ref a] ∧ SqT K H1 a xs ∧ R (Ite K a) H1
section
variable {X : Cx} {es : List Expr} {k : Nat} {p pos p2 : Pos} {a : Expr} {f : Fe}
theorem pi_enum {ta : TA} (hg : Gl X "enumerate") (hm : X.mg "enumerate" = none) (ha : PA X [a] ta) (hs : starEach [a] X.env = [(false, eval a X.env)] := by rfl) : PI X (.Tuple es k p2) (.Call (.Name "enumerate" p) [a] [] pos) (iEn X.K ta) := by
  intro pins s σ H R I h
  refine Call_ (ld_blt I hg hm PyProof.Rows.boot_enumerate (PyProof.Rows.callWith_type1 (thn (ha pos pins s σ H _ I h) fun us s1 ⟨vs, H1, I1, r1, q1⟩ => ?_) hs rfl))
  obtain ⟨a, xs, rfl, hq, q⟩ := q1
  cases r1 with
  | cons r rr =>
    cases rr
    cases r
    obtain ⟨its, rv, pl, hz⟩ := I1.tuple hq
    have hal : a < s1.heap.objs.size := by obtain ⟨o, ho, _⟩ := pl; exact Heap.lt_size ho
    refine call_enumerate_tuple (show s1.heap.IsTuple a its.toArray from pl) fun h' he hit hsz hk => wpAny_pyIter_enum he ?_
    refine ⟨s1.heap.objs.size + 1, [s1.heap.objs.size + 1, s1.heap.objs.size], _, _, H1, rfl, I1.kept (t' := s1.toks) hk, turn_enum a s1.heap.objs.size (s1.heap.objs.size + 1) (Nat.succ_ne_self _) (Nat.ne_of_lt hal) (Nat.ne_of_lt (Nat.lt_succ_of_lt hal)), ⟨⟨_, he⟩, hit⟩, fun b hb => ?_, q⟩
    have hb' : s1.heap.objs.size ≤ b := by
      rcases List.mem_cons.mp hb with rfl | hb
      · exact Nat.le_succ _
      · have : b = s1.heap.objs.size := by simpa using hb
        rw [this]
        exact Nat.le_refl _
    exact I1.fpOk hb' (I1.hok.fresh hb')
theorem itOk_enum {K : PySem.W.Frag} {a : Addr} {F1 : Addr → Prop} {H1 : Hp} {ts : List T} {vs : List V} (hr : SqT K H1 a vs) (q : RepL K F1 H1 ts vs) : ItOk K (Ite K a) F1 H1 (enum ts) where
  go := fun i F H t kp d e => by
    have hi := (List.getElem?_eq_some_iff.mp e).1
    simp only [enum, List.length_map, List.length_zipIdx] at hi
    obtain ⟨v, h1, _⟩ := q.get (List.getElem?_eq_getElem hi)
    exact ⟨vs, v, kp.tup _ _ hr, h1⟩
  yld := fun i F H t x H' kp d e y => by
    obtain ⟨p, v, hp, rfl, rfl, y⟩ := y
    have hi := (List.getElem?_eq_some_iff.mp e).1
    simp only [enum, List.length_map, List.length_zipIdx] at hi
    obtain ⟨v', h1, h2⟩ := (q.kp kp).get (List.getElem?_eq_getElem hi)
    have h3 := y vs (kp.tup _ _ hr)
    rw [h1] at h3
    cases h3
    have x1 := Ext.laid (o := .tup [.int i, v]) d hp
    refine ⟨F, x1, ?_⟩
    have et : t = .tuple [.int i, ts[i]] := by
      simp only [enum, List.getElem?_map, List.getElem?_zipIdx, List.getElem?_eq_getElem hi] at e
      simpa using e.symm
    subst et
    simp only [Rep]
    exact ⟨p, _, rfl, SqT.of upd_same, RepL.cons (by simp [Rep]) (RepL.cons (h2.ext x1) RepL.nil)⟩
  stop := fun i F H kp hl => ⟨vs, kp.tup _ _ hr, by
    simp only [enum, List.length_map, List.length_zipIdx] at hl
    rw [← q.length]
    exact hl⟩
/-- for a, b in enumerate(t) -/
theorem i_enum (hm : X.mg "enumerate" = none) (ha : PEv X a f) (hg : Gl X "enumerate" := by rfl) (hs : starEach [a] X.env = [(false, eval a X.env)] := by rfl) (hs2 : starEach [a] X.env = (false, eval a X.env) :: starEach [] X.env := by rfl) :
    PIt X (.Tuple es k p2) (.Call (.Name "enumerate" p) [a] [] pos) (itEnum (itTup f)) := PI_imp (pi_enum hg hm (pa_cons ha pa_nil hs2) hs) fun σ H R ⟨F₀, H₀, O, F, ε, ts, r, e, k⟩ => by
  simp only [itEnum, itTup, Option.map_eq_some_iff, Option.bind_eq_some_iff] at e
  obtain ⟨us, ⟨t, et, e⟩, rfl⟩ := e
  split at e
  · cases e
    refine ⟨F₀, H₀, O, F, ε, _, r, et, fun v F' H' x q => ?_⟩
    simp only [Rep] at q
    obtain ⟨a, vs, rfl, hs, hr⟩ := q
    exact ⟨a, vs, rfl, hs, k _ F' H' x (itOk_enum hs hr)⟩
  · cases e
end
end D
end
section
set_option linter.all false
set_option Elab.async false
set_option maxRecDepth 100000
set_option autoImplicit false
namespace D
open PySem PySem.Spec PyProof.Rows L2

/-- a def that may be called -/
structure Cl (P : Program) (w : World) (K : PySem.W.Frag) (mg : Str → Option Value) (base : Heap) (x : Str) (k n : Nat) (d : List T → Option T) : Prop where
  ex : ∃ fa fd ps, FnOk P w K mg base CX0 k fa fd ps (spT K n d) ∧ mg x = some (.ref fa) ∧ PySem.W.keepIn K (.ref fa) = true ∧ Binds K fd ps []
section
variable {P : Program} {w : World} {K : PySem.W.Frag} {mg : Str → Option Value} {base : Heap} {x : Str} {k n : Nat} {d : List T → Option T}
theorem Cl.mono {j : Nat} (c : Cl P w K mg base x j n d) (h : j ≤ k) : Cl P w K mg base x k n d := by
  obtain ⟨fa, fd, ps, F, r⟩ := c.ex
  exact ⟨fa, fd, ps, F.mono h, r⟩
theorem Cl.mk' {fa : Addr} {fd : FuncData} {ps : List Str} (F : FnOk P w K mg base CX0 k fa fd ps (spT K n d)) (m : mg x = some (.ref fa)) (kp : PySem.W.keepIn K (.ref fa) = true) (b : Binds K fd ps []) : Cl P w K mg base x k n d := ⟨fa, fd, ps, F, m, kp, b⟩
end
section
variable {X : Cx} {k n : Nat} {d : List T → Option T} {x : Str} {p pos : Pos} {e : Expr} {es : List Expr} {fs : List Fe}
theorem q_callC (C : Cl X.prog X.w X.K X.mg X.base x k n d) (hr : Room k X.A) (ha : PAv X (e :: es) fs) (hg : Gl X x := by rfl) (hn : fs.length = n := by rfl) (hdb : (x == ("__debug__" : Str)) = false := by decide)
    (he : starEach (e :: es) X.env = (false, eval e X.env) :: starEach es X.env := by rfl) (hpl : (backTo pos (starEach es X.env)).any (·.1) = false := by rfl) : PEv X (.Call (.Name x p) (e :: es) [] pos) (opN d fs) := by
  obtain ⟨fa, fd, ps, F, m, kp, b⟩ := C.ex
  exact q_call F hr hg m kp b ha hn hdb he hpl
theorem q_gI {i : Int} {t : Tok} (hm : X.mg x = some (.int i t)) (hg : Gl X x := by rfl) (hd : (x == ("__debug__" : Str)) = false := by decide) : PEv X (.Name x pos) (cst (.int i)) := q_cst (v := .int i) (pe_glob (v := .int i) hg hm ⟨t, rfl⟩ hd) fun _ _ => by simp [Rep]
/-- a comprehension's scope, looked at by program -/
def compB (scope sc : Scope) (N : List Str) (caps : List (Nat × Str)) : Bool :=
  decide (scope.kind = .function) && scope.names.all (fun y => (decide (y.2 ≠ .local) || decide (scope.names.lookup y.1 = some .local)) && decide (y.2 ≠ .cell) && (decide (y.2 ≠ .free) || decide (sc.names.lookup y.1 = some .cell) || decide (sc.names.lookup y.1 = some .free)))
    && caps.all (fun q => decide (N[q.1]? = some q.2) && decide (scope.names.lookup q.2 = some .free)) && decide ((caps.map (·.1)).Nodup)
theorem compOk {scope sc : Scope} {own : List Str} {caps : List (Nat × Str)} (N : List Str) (hsc : X.env.scope = sc) (hN : X.N = N) (hc : X.calm = true) (h : compB scope sc N caps = true) : CompOk X scope own caps := by
  simp only [compB, Bool.and_eq_true, List.all_eq_true, decide_eq_true_eq, Bool.or_eq_true] at h
  obtain ⟨⟨⟨h1, h2⟩, h3⟩, h4⟩ := h
  refine ⟨h1, fun y hy hl => ?_, fun y hy => (h2 y hy).1.2, fun y hy hf => ?_, fun q hq => by rw [hN]; exact h3 q hq, h4, hc⟩
  · rcases (h2 y hy).1.1 with z | z
    · exact absurd hl z
    · exact z
  · have hk : X.env.kindOf y.1 = sc.names.lookup y.1 := by rw [← hsc]; rfl
    rw [hk]
    rcases (h2 y hy).2 with (z | z) | z
    · exact absurd hf z
    · exact .inl z
    · exact .inr z
end
/-- a def of the text and its meaning -/
theorem cl_of {P : Program} {w : World} {K : PySem.W.Frag} {mg : Str → Option Value} {base : Heap} {x : Str} {st : Stmt} {f : Addr} {fd : FuncData} {N ps : List Str} {k : Nat} {b : Fs} (F : Fun K x x st f fd) (S : FnScope N ps (defScope st)) (bd : Binds K fd ps []) (m : mg x = some (.ref f))
    (hb : ∀ (cdv : Value) (A : Around) (outer : List Env) (s : Shared) (H : Hp) (E : XK), Room k (A.deeper (envOfC x (defScope st) s.heap.objs.size f cdv)) →
      PBt (cxOf CX0 P w K mg base N x (defScope st) f cdv A outer s H E).nox (defBody st) b) : Cl P w K mg base x (k + 1) ps.length (runF b N.length) := .mk' (fun_ok F S hb) m F.kp bd
end D
end
section
set_option linter.all false
set_option Elab.async false
set_option maxRecDepth 100000
set_option autoImplicit false
namespace D
open PySem PySem.Spec PyProof.Rows L2

/-! ### dicts of a frame's own -/
section
variable {K : PySem.W.Frag} {F : Addr → Prop} {H : Hp}
theorem RepD.any {k : D.Key} : ∀ {kvs : List (D.Key × T)} {vs : List (D.Key × V)}, RepD K F H kvs vs → hasD kvs k = (valV vs k).isSome
  | [], vs, h => by
    have : vs = [] := h
    subst this
    rfl
  | p :: r, vs, h => by
    obtain ⟨v, w, rfl, q, z⟩ := h
    have ih := RepD.any (k := k) z
    simp only [hasD, List.any_cons, valV, List.find?_cons] at ih ⊢
    by_cases e : p.1 = k
    · simp [e]
    · simp [e, ih]
theorem RepD.get {k : D.Key} {t : T} : ∀ {kvs : List (D.Key × T)} {vs : List (D.Key × V)}, RepD K F H kvs vs → D.getD kvs k = some t → ∃ v, valV vs k = some v ∧ Rep K F H t v
  | [], vs, h, e => by cases e
  | p :: r, vs, h, e => by
    obtain ⟨v, w, rfl, q, z⟩ := h
    simp only [D.getD, valV, List.find?_cons] at e ⊢
    by_cases e' : p.1 = k
    · simp [e'] at e ⊢
      subst e
      exact q
    · simp [e'] at e ⊢
      have := RepD.get (k := k) (t := t) z (by simpa [D.getD] using e)
      simpa [valV] using this
theorem RepD.length : ∀ {kvs : List (D.Key × T)} {vs : List (D.Key × V)}, RepD K F H kvs vs → kvs.length = vs.length
  | [], vs, h => by
    have : vs = [] := h
    subst this
    rfl
  | p :: r, vs, h => by
    obtain ⟨v, w, rfl, q, z⟩ := h
    simp [RepD.length z]
theorem RepD.append : ∀ {kvs us : List (D.Key × T)} {vs ws : List (D.Key × V)}, RepD K F H kvs vs → RepD K F H us ws → RepD K F H (kvs ++ us) (vs ++ ws)
  | [], us, vs, ws, h, r => by
    have : vs = [] := h
    subst this
    exact r
  | p :: q, us, vs, ws, h, r => by
    obtain ⟨v, w, rfl, q', z⟩ := h
    exact ⟨v, w ++ ws, rfl, q', RepD.append z r⟩
end
section
variable {X : Cx} {a b e : Expr} {f g : Fe} {pos : Pos}
variable {x : Str} {px : Pos}
end
end D
end
section
set_option linter.all false
set_option Elab.async false
set_option maxRecDepth 100000
set_option autoImplicit false
namespace D
open PySem

/-! ### a set's table: its places rise, whatever is laid -/
def Rs (xs : Array Nat) : Prop := xs.toList.Pairwise (· < ·)
def Cuts (xs : Array Nat) (j p : Nat) : Prop := p ≤ xs.size ∧ (∀ i, i < p → ∀ y, xs.toList[i]? = some y → y < j) ∧ ∀ i, p ≤ i → ∀ y, xs.toList[i]? = some y → j ≤ y
end D
end
section
set_option linter.all false
set_option Elab.async false
set_option maxRecDepth 100000
set_option autoImplicit false
namespace D
open PySem PySem.Spec PyProof.Rows L2

/-- whether a run orders its sets by a text -/
def byTxt (w : World) : Bool := w.params.followText "set-order"
section
variable {prog : Program} {w : World} {K : Type} [DecidableEq K] (knd : PySem.KeyKind prog w K)
def IsK (e : Int × Value) (k : K) : Prop := knd.is k e.2 = true
/-- a set, with its keys in some order -/
def SetK (h : Heap) (a : Addr) (ks : List K) : Prop := ∃ (es : Array (Int × Value)) (ep : Nat) (t : SetTable) (ks' : List K),
  h.get? a = some { cls := .type "set", dict := none, data := .set es ep t, slots := #[] } ∧ ElemsOf knd es.toList ∧ Paired (IsK knd) es.toList ks' ∧ ks'.Perm ks ∧ es.size < scanBound ∧ t.fits es.size = true ∧ t.led = !byTxt w ∧ Rs t.place
def addK (ks : List K) (k : K) : List K := if k ∈ ks then ks else ks ++ [k]
variable {knd} {A : Around} {E : Value → Shared → Prop} {s : Shared}
def addAll (ks : List K) : List K := ks.foldl addK []
/-- a value that is a key -/
def IsV (knd : PySem.KeyKind prog w K) (v : Value) (k : K) : Prop := knd.is k v = true ∧ v.scannable = true
section
variable {R : Result → Shared → Prop} {I : Addr} {fp wr : List Addr} {G : Array GenState → Array GenState → Prop} {St : Nat → Shared → Prop} {items : Array Value}
end
end
end D
end
section
set_option linter.all false
set_option Elab.async false
set_option maxRecDepth 100000
set_option autoImplicit false
namespace D
open PySem PySem.Spec PyProof.Rows L2

/-! ### orders -/
section
variable {prog : Program} {w : World} {A : Around} {E : Value → Shared → Prop} {s : Shared}
end
/-! ### a set walked -/
section
variable {prog : Program} {w : World} {A : Around} {E : Value → Shared → Prop} {s : Shared}
def SetObj (h : Heap) (a : Addr) (es : Array (Int × Value)) (ep : Nat) (t : SetTable) : Prop := h.get? a = some { cls := .type "set", dict := none, data := .set es ep t, slots := #[] }
def SetIt (h : Heap) (I : Addr) (fs : Array Value) : Prop := h.get? I = some { cls := .type "set_iterator", dict := none, data := .fields fs, slots := #[] }
theorem SetIt.typeIs {I : Addr} {fs : Array Value} (h : SetIt s.heap I fs) : s.TypeIs (.ref I) "set_iterator" := ⟨_, h, rfl⟩
variable {a I : Addr} {es : Array (Int × Value)} {ep : Nat} {t : SetTable}
end
end D
end
section
set_option linter.all false
set_option Elab.async false
set_option maxRecDepth 100000
set_option autoImplicit false
namespace D
open PySem PySem.Spec PyProof.Rows L2

section
variable {prog : Program} {w : World} {A : Around} {E : Value → Shared → Prop} {s : Shared}
variable {a I : Addr} {es : Array (Int × Value)} {ep : Nat} {t : SetTable}
/-- the places drawn -/
def Places (h : Heap) (tp : Addr) (ps : List Nat) : Prop := h.get? tp = some { cls := .type "tuple", dict := none, data := .seq (ps.map fun (i : Nat) => rawInt i).toArray, slots := #[] }
/-! the three walks -/
def ltx (f : Nat → Nat) (es : Array (Int × Value)) : List Value := (pickOrder f es).toList.map (·.2)
def SlotOk (xs : Array Nat) (i sl : Nat) : Prop := (i = 0 → sl = 0) ∧ ∀ k, i = k + 1 → ∃ y, xs.toList[k]? = some y ∧ sl = y + 1
end
end D
end
section
set_option linter.all false
set_option Elab.async false
set_option maxRecDepth 100000
set_option autoImplicit false
namespace D
open PySem PySem.Spec PyProof.Rows L2
section
variable {prog : Program} {w : World} {K : Type} [DecidableEq K] {knd : PySem.KeyKind prog w K} {A : Around} {E : Value → Shared → Prop} {s : Shared} {a : Addr} {ks : List K}
theorem SetK.typeIs (h : SetK knd s.heap a ks) : s.TypeIs (.ref a) "set" := let ⟨_, _, _, _, h, _⟩ := h; ⟨_, h, rfl⟩
theorem SetK.lt {h : Heap} (x : SetK knd h a ks) : a < h.objs.size := let ⟨_, _, _, _, h, _⟩ := x; Heap.lt_size h
end
end D
end
section
set_option linter.all false
set_option Elab.async false
set_option maxRecDepth 100000
set_option autoImplicit false
namespace D
open PySem PySem.Spec PyProof.Rows L2

/-! ### sorting by trees -/
abbrev sLe (x y : Str) : Prop := strLt y x = false
/-! first met -/
section
variable {K : Type} [DecidableEq K]
end
end D
end
section
set_option linter.all false
set_option Elab.async false
set_option maxRecDepth 100000
set_option autoImplicit false
namespace D
open PySem PySem.Spec PyProof.Rows L2
section
variable {prog : Program} {w : World} {A : Around} {E : Value → Shared → Prop} {s : Shared}
/-- what is sorted: ints, or texts -/
inductive Srt : List Value → List Value → Prop where
  | ofI {vs out : List Value} {ns : List Int} : IntsAre vs ns → IntsAre out (sortI ns) → Srt vs out
  | ofS {vs out : List Value} {ss : List Str} : StrsAre vs ss → StrsAre out (sortS ss) → Srt vs out
def Sortable (vs : List Value) : Prop := vs.length < 64 ∧ ((∃ ns, IntsAre vs ns) ∨ ∃ ss, StrsAre vs ss)
end
/-! ### the layer's rules -/
section
variable {X : Cx} {pins : List (Addr × Obj)} {σ : L2.St} {H : Hp} {s : Shared}
def setO (X : Cx) (l : Addr) (ks : List L2.Key) : HO := .ext fun h => SetK (mixKind X.prog X.w) h l ks
/-- what sorted tells of keys -/
def sortK (ks : List L2.Key) (ys : List V) : Prop := (∃ ns : List Int, ks = ns.map Sum.inl ∧ ys = (sortI ns).map V.int) ∨ ∃ ss : List Str, ks = ss.map Sum.inr ∧ ys = (sortS ss).map V.str
end
end D
end
section
set_option linter.all false
set_option Elab.async false
set_option maxRecDepth 100000
set_option autoImplicit false
namespace D
open PySem PySem.Spec PyProof.Rows L2

/-! ### sorted, by trees -/
theorem intsOf_eq : ∀ {ts : List T} {ns : List Int}, intsOf ts = some ns → ts = ns.map .int
  | [], ns, e => by
    cases e
    rfl
  | t :: ts, ns, e => by
    unfold intsOf at e
    split at e
    · rename_i h
      cases h
    · rename_i h
      cases h
      simp only [Option.map_eq_some_iff] at e
      obtain ⟨r, e1, rfl⟩ := e
      rw [intsOf_eq e1]
      rfl
    · cases e
section
variable {K : PySem.W.Frag} {F : Addr → Prop} {H : Hp}
theorem repL_ints : ∀ (ns : List Int), RepL K F H (ns.map .int) (ns.map V.int)
  | [] => RepL.nil
  | n :: ns => RepL.cons (by simp [Rep]) (repL_ints ns)
theorem repL_intsE : ∀ {ns : List Int} {vs : List V}, RepL K F H (ns.map .int) vs → vs = ns.map V.int
  | [], vs, h => by simpa [RepL] using h
  | n :: ns, vs, h => by
    simp only [List.map_cons, RepL, Rep] at h
    obtain ⟨v, r, rfl, rfl, z⟩ := h
    rw [repL_intsE z]
    rfl
end
/-- sorted(set(..)) of a list -/
def oSortedSetL : List T → Option T
  | [.list xs] => if xs.length < 64 then
      match intsOf xs with
      | some ns => some (.list ((sortI (dedup ns)).map .int))
      | none => (strsOf xs).map fun ss => .list ((sortS (dedup ss)).map .str)
    else none
  | _ => none
section
variable {X : Cx} {a e : Expr} {es : List Expr} {f : Fe} {fs : List Fe} {p p2 pos pos2 : Pos}
end

/-! ### t[::-1] -/
section
variable {prog : Program} {w : World} {A : Around} {E : Value → Shared → Prop} {s : Shared}
end
def oRevT : T → Option T
  | .tuple xs => some (.tuple xs.reverse)
  | _ => none
section
variable {X : Cx} {e st : Expr} {te : TE} {f : Fe} {pos p2 : Pos}
def tRev (K : PySem.W.Frag) (te : TE) : TE := fun σ H Q => te σ H fun x H1 => ∃ a xs, x = .ref a ∧ SqT K H1 a xs ∧ ∀ p, H1 p = none → Q (.ref p) (upd H1 p (.tup xs.reverse))
end
end D
end
section
set_option linter.all false
set_option Elab.async false
set_option maxRecDepth 100000
set_option autoImplicit false
namespace D
open PySem PySem.Spec PyProof.Rows L2
section
variable {prog : Program} {w : World} {K : Type} [DecidableEq K] {knd : PySem.KeyKind prog w K} {A : Around} {E : Value → Shared → Prop} {s : Shared}
end
end D
end
section
set_option linter.all false
set_option Elab.async false
set_option maxRecDepth 100000
set_option autoImplicit false
namespace D
open PySem PySem.Spec PyProof.Rows L2
section
variable {X : Cx} {a b e : Expr} {es rest : List Expr} {f g : Fe} {fs : List Fe} {p p2 pos pos2 : Pos}
/-! ### and, or, not of truths, as values -/
theorem q_not (ha : PEv X a f) : PEv X (.UnaryOp .Not a pos) (notV f) := PE_imp (pe_not ha) fun σ H Q ⟨F₀, H₀, O, F, ε, t, r, e, k⟩ => by
  simp only [notV, Option.bind_eq_some_iff] at e
  obtain ⟨x, ex, e⟩ := e
  refine ⟨F₀, H₀, O, F, ε, x, r, ex, fun v F1 H1 x1 rx => ?_⟩
  split at e
  · cases e
    simp only [Rep] at rx
    exact ⟨_, rx, k _ F1 H1 x1 (by simp [Rep])⟩
  · cases e
/-! ### list(x) -/
theorem q_list (hm : X.mg "list" = none) (ha : PAr X (e :: es) fs) (hg : Gl X "list" := by rfl) (he : starEach (e :: es) X.env = (false, eval e X.env) :: starEach es X.env := by rfl) (hpl : (backTo pos (starEach es X.env)).any (·.1) = false := by rfl) :
    PEv X (.Call (.Name "list" p) (e :: es) [] pos) (opN oList fs) := PE_imp (pe_callTy call_list_of hg hm (by decide +kernel) ha (he := he) (hpl := hpl)) (opN_imp (by
  intro O F H ts t vs Q d q e k
  unfold oList at e
  split at e
  · cases e
    cases q with
    | cons q1 q2 =>
      cases q2
      obtain ⟨l0, ws, rfl, hl, hr⟩ := q1.tup
      refine ⟨l0, ws, rfl, .inr hl, fun l hl1 => ?_⟩
      have x1 := Ext.laidF (o := .lst ws) d hl1
      refine k _ _ _ x1 ?_
      simp only [Rep]
      exact ⟨l, ws, rfl, .inr rfl, .inl upd_same, hr.ext x1⟩
  · cases e
    cases q with
    | cons q1 q2 =>
      cases q2
      obtain ⟨l0, ws, rfl, hl, hr⟩ := q1.lst
      refine ⟨l0, ws, rfl, .inl (.inl hl), fun l hl1 => ?_⟩
      have x1 := Ext.laidF (o := .lst ws) d hl1
      refine k _ _ _ x1 ?_
      simp only [Rep]
      exact ⟨l, ws, rfl, .inr rfl, .inl upd_same, hr.ext x1⟩
  · cases e))
/-! ### slices -/
def tOt (K : PySem.W.Frag) (f : Ev → Option (Option Int)) : TO := fun σ H Q => ∃ F₀ H₀ O F ε i, RelE K F₀ H₀ O F H ε σ ∧ f ε = some i ∧ ∀ F' H', Ext F H F' H' → Q i H'
theorem PO_imp {x : Option Expr} {t t' : TO} (h : PO X x t) (k : ∀ σ H Q, t' σ H Q → t σ H Q) : PO X x t' := fun pins s σ H Q I q => h pins s σ H Q I (k σ H Q q)
theorem o_none : PO X none (tOt X.K optN) := PO_imp po_none fun σ H Q ⟨F₀, H₀, O, F, ε, i, r, e, k⟩ => by
  cases e
  exact k F H (Ext.refl r.dom)
theorem o_some (h : PEr X a f) : PO X (some a) (tOt X.K (opt f)) := PO_imp (po_some h) fun σ H Q ⟨F₀, H₀, O, F, ε, i, r, e, k⟩ => by
  simp only [opt, Option.bind_eq_some_iff] at e
  obtain ⟨x, ex, e⟩ := e
  refine ⟨F₀, H₀, O, F, ε, x, r, ex, fun v F1 H1 x1 rx => ?_⟩
  split at e
  · cases e
    exact ⟨_, rx.int, k F1 H1 x1⟩
  · cases e
def rSlW (K : PySem.W.Frag) : V → Option Int → Option Int → Hp → VK → Prop := fun x lo hi H Q => ∃ a xs, x = .ref a ∧ SqT K H a xs ∧ (HT.sIx xs.length 0 lo = 0 ∧ HT.sIx xs.length xs.length hi = xs.length) ∧ Q (.ref a) H
theorem getItem_tuple_whole {prog : Program} {w : World} {A : Around} {E : Value → Shared → Prop} {s : Shared} {t sl : Addr} {items : Array Value} {vl vu : Value} {lo hi : Option Int} {Q : Value → Shared → Prop} (ht : IsTup s.heap t items) (hs : s.heap.IsSliceOf sl vl vu .none) (pl : IsPart vl lo) (pu : IsPart vu hi)
    (hw : HT.sIx items.size 0 lo = 0 ∧ HT.sIx items.size items.size hi = items.size) (h : Q (.ref t) s) : wpAny (model prog w) A (getItem (.ref t) (.ref sl)) Q E s := by
  obtain ⟨os, hos, hcs, hds⟩ := id hs
  have hTs : s.TypeIs (.ref sl) "slice" := ⟨os, hos, hcs⟩
  unfold getItem
  try with_reducible refine wpAny_holding ?_
  first | refine wpAny_bind (wpAny_pure ?_) | skip
  refine wpAny_bind (wpAny_sequenceKey ht.typeIs (by decide) ?_)
  refine wpAny_bind (wpAny_callSpecial?_slot (name := Str.ofString "__getitem__") ht.typeIs PyProof.Rows.slot_tuple_getitem
    (wpAny_call_entry PyProof.Rows.slot_tuple_getitem ht.typeIs entry_tuple_getitem ?_ (args_tuple_getitem _ _)))
  show wpAny _ _ (Builtin.Tuple.tupleItemsOf (.ref t) >>= _) _ _ s
  refine wpAny_bind (tupleItemsOf_ ht ?_)
  refine wpAny_bind (wpAny_typeOf hTs ?_)
  rw [if_pos (by decide)]
  refine wpAny_bind (HT.sliceApplied_gen hs pl pu ?_)
  rw [hw.1, hw.2]
  show wpAny _ _ (if (((0 : Nat) : Int) == 0 && (1 : Int) == 1 && (items.size - 0) == items.size) = true then _ else _) _ _ s
  rw [if_pos (by simp)]
  unfold Builtin.Tuple.tupleIsExact
  refine wpAny_bind (wpAny_bind (wpAny_typeOf ht.typeIs (wpAny_pure ?_)))
  rw [if_pos (by decide)]
  refine wpAny_bind (wpAny_rule ?_)
  exact wpAny_pure ⟨_, rfl, wpAny_pure h⟩
theorem sl_whole : SlR X (rSlW X.K) := by
  intro pins s σ H x v vl vu lo hi sl Q I rx hs pl pu h
  obtain ⟨a, xs, rfl, hx, hw, q⟩ := h
  cases rx
  obtain ⟨its, r, ht, hz⟩ := I.tuple hx
  have hlen : its.toArray.size = xs.length := by rw [List.size_toArray]; exact r.length.symm
  refine ⟨"tuple", _, PyProof.Rows.slot_tuple_getitem.lookup, ht.typeIs, ?_⟩
  exact getItem_tuple_whole ht hs pl pu (by rw [hlen]; exact hw) ⟨.ref a, H, I, rfl, q⟩
theorem sIx_eq (n d : Nat) (o : Option Int) : D.sIx n d o = HT.sIx n d o := by
  cases o with
  | none => rfl
  | some v =>
    unfold D.sIx HT.sIx
    dsimp only
    split <;> omega
theorem repL_cut {K : PySem.W.Frag} {F : Addr → Prop} {H : Hp} {ts : List T} {vs : List V} (h : RepL K F H ts vs) (lo hi : Option Int) : RepL K F H (cutZ ts lo hi) (cutV vs lo hi) := by
  unfold cutZ cutV
  simp only [sIx_eq, h.length]
  exact (h.drop _).take _
theorem q_slice {lo hi : Option Expr} {fl fh : Ev → Option (Option Int)} (ha : PEr X e f) (hl : PO X lo (tOt X.K fl)) (hu : PO X hi (tOt X.K fh)) : PEv X (.Subscript e (.Slice lo hi none p2) pos) (slice f fl fh) := PE_imp (pe_slice ((sl_tup.or sl_whole).or sl_list) ha hl hu) fun σ H Q ⟨F₀, H₀, O, F, ε, t, r, e, k⟩ => by
  simp only [slice, Option.bind_eq_some_iff] at e
  obtain ⟨x, ex, l, el, h, eh, e⟩ := e
  refine ⟨F₀, H₀, O, F, ε, x, r, ex, fun v F1 H1 x1 rx => ⟨F₀, H₀, O, F1, ε, l, r.ext x1, el, fun F2 H2 x2 => ⟨F₀, H₀, O, F2, ε, h, (r.ext x1).ext x2, eh, fun F3 H3 x3 => ?_⟩⟩⟩
  have x23 := x2.trans x3
  have x13 := x1.trans x23
  unfold oSl at e
  split at e
  · cases e
    obtain ⟨a, vs, rfl, hs, hr⟩ := (rx.ext x23).tup
    by_cases hw : HT.sIx vs.length 0 l = 0 ∧ HT.sIx vs.length vs.length h = vs.length
    · refine .inl (.inr ⟨a, vs, rfl, hs, hw, k _ F3 H3 x13 ?_⟩)
      simp only [Rep]
      refine ⟨a, vs, rfl, hs, ?_⟩
      have := repL_cut hr l h
      unfold cutV at this
      rw [hw.1, hw.2, List.drop_zero, Nat.sub_zero, List.take_length] at this
      exact this
    · refine .inl (.inl ⟨a, vs, rfl, hs, hw, fun q hq => ?_⟩)
      have x4 := Ext.laid (o := .tup (cutV vs l h)) x13.dom hq
      refine k _ F3 _ (x13.trans x4) ?_
      simp only [Rep]
      exact ⟨q, _, rfl, SqT.of upd_same, (repL_cut hr l h).ext x4⟩
  · cases e
    obtain ⟨a, vs, rfl, hs, hr⟩ := (rx.ext x23).lst
    refine .inr ⟨a, vs, rfl, .inl hs, fun q hq => ?_⟩
    have x4 := Ext.laidF (o := .lst (cutV vs l h)) x13.dom hq
    refine k _ _ _ (x13.trans x4) ?_
    simp only [Rep]
    exact ⟨q, _, rfl, .inr rfl, .inl upd_same, (repL_cut hr l h).ext x4⟩
  · cases e
/-! ### sum of a tuple of ints -/
def oSumT : List T → Option T
  | [.tuple xs] => (intsOf xs).bind fun ns => if ns.length ≤ 1000 ∧ ∀ n ∈ ns, -1000000000000 ≤ n ∧ n ≤ 1000000000000 then some (.int ns.sum) else none
  | _ => none
end
/-! ### sorted(set(..)), len(set(..)) of lists and of tuples -/
def oSortedSetA : List T → Option T
  | [.list xs] => oSortedSetL [.list xs]
  | [.tuple xs] => oSortedSetL [.list xs]
  | _ => none
def oLenSetA : List T → Option T
  | [.list xs] => if xs.length < 64 then (intsOf xs).map fun ns => .int (dedup ns).length else none
  | [.tuple xs] => if xs.length < 64 then (intsOf xs).map fun ns => .int (dedup ns).length else none
  | _ => none
section
variable {X : Cx} {a e : Expr} {f : Fe} {p p2 pos pos2 : Pos}
end
end D
end
section
set_option linter.all false
namespace D
open PySem PySem.W PyProof.Rows
/-! ### sorting by questions, of unlike things -/
inductive RunK {α : Type} (ans : Nat → Nat → Bool) (n : Nat) : KasT α → α → Prop
  | ret (a : α) : RunK ans n (.ret a) a
  | ask {i j : Nat} {k : Bool → KasT α} {a : α} : i < n → j < n → RunK ans n (k (ans i j)) a → RunK ans n (.ask i j k) a
structure OrdK (n : Nat) (lt : Nat → Nat → Bool) : Prop where
  asym : ∀ i j, lt i j = true → lt j i = false
  trans : ∀ i j k, lt i j = true → lt j k = true → lt i k = true
  tot : ∀ i j, i < n → j < n → i ≠ j → lt i j = true ∨ lt j i = true
def Per (n : Nat) (p : Array Nat) : Prop := p.toList.Perm (List.range n)
theorem Per.size {n : Nat} {p : Array Nat} (h : Per n p) : p.size = n := by
  have := h.length_eq
  simpa using this
theorem Per.lt {n : Nat} {p : Array Nat} (h : Per n p) {k : Nat} (hk : k < n) : p.getD k 0 < n := by
  have hs := h.size
  have : p.getD k 0 = p[k]'(by omega) := by simp [Array.getD, hs, hk]
  rw [this]
  exact List.mem_range.mp (h.mem_iff.mp (by simp))
theorem Per.inj {n : Nat} {p : Array Nat} (h : Per n p) {i j : Nat} (hi : i < n) (hj : j < n) (e : p.getD i 0 = p.getD j 0) : i = j := by
  have hs := h.size
  have nd : p.toList.Nodup := h.nodup_iff.mpr List.nodup_range
  have e1 : p.getD i 0 = p[i]'(by omega) := by simp [Array.getD, hs, hi]
  have e2 : p.getD j 0 = p[j]'(by omega) := by simp [Array.getD, hs, hj]
  rw [e1, e2] at e
  have pw := List.pairwise_iff_getElem.mp nd
  rcases Nat.lt_trichotomy i j with q | q | q
  · exact absurd (show p.toList[i]'(by simpa [hs] using hi) = p.toList[j]'(by simpa [hs] using hj) from e) (pw i j (by simpa [hs] using hi) (by simpa [hs] using hj) q)
  · exact q
  · exact absurd (show p.toList[j]'(by simpa [hs] using hj) = p.toList[i]'(by simpa [hs] using hi) from e.symm) (pw j i (by simpa [hs] using hj) (by simpa [hs] using hi) q)
def SP (lt : Nat → Nat → Bool) (p : Array Nat) (m : Nat) : Prop := ∀ i j, i < j → j < m → lt (p.getD i 0) (p.getD j 0) = true
def DP (lt : Nat → Nat → Bool) (p : Array Nat) (m : Nat) : Prop := ∀ i j, i < j → j < m → lt (p.getD j 0) (p.getD i 0) = true
section
variable {n : Nat} {lt : Nat → Nat → Bool} (O : OrdK n lt)
include O
end
end D
end
section
set_option linter.all false
namespace D
open PySem
/-! ### rows of ints in order -/
def ltL : List Int → List Int → Bool
  | [], [] => false
  | [], _ :: _ => true
  | _ :: _, [] => false
  | a :: x, b :: y => decide (a < b) || (decide (a = b) && ltL x y)
abbrev lLe (x y : List Int) : Prop := ltL y x = false
theorem ltL_irr : ∀ x : List Int, ltL x x = false
  | [] => rfl
  | a :: x => by simp [ltL, ltL_irr x]
theorem ltL_asym : ∀ {x y : List Int}, ltL x y = true → ltL y x = false
  | [], [], h => by cases h
  | [], _ :: _, _ => rfl
  | _ :: _, [], h => by cases h
  | a :: x, b :: y, h => by
    simp only [ltL, Bool.or_eq_true, Bool.and_eq_true, decide_eq_true_eq] at h
    simp only [ltL, Bool.or_eq_false_iff, Bool.and_eq_false_iff, decide_eq_false_iff_not]
    rcases h with h | ⟨h1, h2⟩
    · exact ⟨by omega, .inl (by omega)⟩
    · exact ⟨by omega, .inr (ltL_asym h2)⟩
def insL (x : List Int) : List (List Int) → List (List Int)
  | [] => [x]
  | y :: ys => if ltL y x = false then x :: y :: ys else y :: insL x ys
def sortL : List (List Int) → List (List Int)
  | [] => []
  | x :: xs => insL x (sortL xs)
/-- the rows of ints of a list -/
def rowsOf : List T → Option (List (List Int))
  | [] => some []
  | .tuple xs :: ts => (intsOf xs).bind fun r => (rowsOf ts).map fun rs => r :: rs
  | _ :: _ => none
def rowT (r : List Int) : T := .tuple (r.map .int)
/-- sorted(..) of a list of tuples of ints -/
def oSortedW : List T → Option T
  | [.list xs] => if xs.length < 64 then (rowsOf xs).bind fun rs => if rs.Nodup ∧ ∀ r ∈ rs, r ≠ [] then some (.list ((sortL rs).map rowT)) else none else none
  | _ => none
end D
end
section
set_option linter.all false
set_option Elab.async false
set_option maxRecDepth 100000
set_option autoImplicit false
namespace D
open PySem PySem.Spec PyProof.Rows L2
open PySem.W (kas_ask kas_sort kat_run kat_snds kat_lt kat_kind KatTups KatLex KatGo kas_item KasT)
section
variable {prog : Program} {w : World} {A : Around} {E : Value → Shared → Prop} {s : Shared}
/-! ### rows of ints, compared -/
end
/-! ### the layer's rule -/
inductive RowsAt (h : Heap) : List Value → List (List Int) → Prop
  | nil : RowsAt h [] []
  | cons {a : Addr} {o : Obj} {xs : Array Value} {n : Nat} {r : List Int} {us : List Value} {rs : List (List Int)} : h.get? a = some o → o.cls = .type "tuple" → o.data = .seq xs n → IntsAre xs.toList r → RowsAt h us rs → RowsAt h (.ref a :: us) (r :: rs)
theorem RowsAt.len {h : Heap} {us : List Value} {rs : List (List Int)} (R : RowsAt h us rs) : us.length = rs.length := by
  induction R with
  | nil => rfl
  | cons _ _ _ _ _ ih => simp [ih]
theorem RowsAt.at_ {h : Heap} {us : List Value} {rs : List (List Int)} (R : RowsAt h us rs) : ∀ {i : Nat}, i < us.length → ∃ a o xs n, us.getD i Value.none = .ref a ∧ h.get? a = some o ∧ o.cls = .type "tuple" ∧ o.data = .seq xs n ∧ IntsAre xs.toList (rs.getD i []) := by
  induction R with
  | nil => intro i hi; simp at hi
  | cons h1 h2 h3 h4 _ ih =>
    intro i hi
    cases i with
    | zero => exact ⟨_, _, _, _, rfl, h1, h2, h3, h4⟩
    | succ i => simpa using ih (by simpa using hi)
theorem RowsAt.keep {h h' : Heap} {us : List Value} {rs : List (List Int)} (R : RowsAt h us rs) (k : ∀ b o, h.get? b = some o → h'.get? b = some o) : RowsAt h' us rs := by
  induction R with
  | nil => exact .nil
  | cons h1 h2 h3 h4 _ ih => exact .cons (k _ _ h1) h2 h3 h4 ih
theorem RowsAt.tups {h : Heap} {us : List Value} {rs : List (List Int)} (R : RowsAt h us rs) (hne : ∀ r ∈ rs, r ≠ []) : ∃ fs, KatTups h us fs ∧ fs.length = us.length ∧ ∀ v ∈ fs, ∃ i t, v = .int i t := by
  induction R with
  | nil => exact ⟨[], trivial, rfl, by simp⟩
  | @cons a o xs n r us rs h1 h2 h3 h4 _ ih =>
    obtain ⟨fs, f1, f2, f3⟩ := ih fun r hr => hne r (by simp [hr])
    have hr := hne r (by simp)
    cases hx : xs.toList with
    | nil =>
      rw [hx] at h4
      cases h4
      exact absurd rfl hr
    | cons v vs =>
      rw [hx] at h4
      cases h4 with
      | cons m t h4 =>
        refine ⟨.int m t :: fs, ⟨⟨a, o, xs, n, rfl, h1, h2, h3, ?_⟩, f1⟩, by simp [f2], fun v hv => ?_⟩
        · rw [← Array.getElem?_toList, hx]
          rfl
        · rcases List.mem_cons.mp hv with rfl | hv
          · exact ⟨m, t, rfl⟩
          · exact f3 v hv
section
variable {X : Cx}
variable {e : Expr} {es : List Expr} {fs : List Fe} {p pos : Pos}
end
end D
end
section
set_option linter.all false
set_option Elab.async false
set_option maxRecDepth 100000
set_option autoImplicit false
namespace D
open PySem PySem.Spec PyProof.Rows L2
section
variable {prog : Program} {w : World} {K : Type} [DecidableEq K] {knd : PySem.KeyKind prog w K} {A : Around}
/-- the pairs, as tuples -/
def PairAt (knd : PySem.KeyKind prog w K) (S : List Addr) (h : Heap) (v : Value) (kv : K × Value) : Prop := ∃ p o n key, v = .ref p ∧ p ∉ S ∧ h.get? p = some o ∧ o.cls = .type "tuple" ∧ o.data = .seq #[key, kv.2] n ∧ knd.is kv.1 key = true
theorem PairAt.keep {S : List Addr} {h h' : Heap} {v : Value} {kv : K × Value} (x : PairAt knd S h v kv) (k : ∀ b o, b ∉ S → h.get? b = some o → h'.get? b = some o) : PairAt knd S h' v kv := by
  obtain ⟨p, o, n, key, h1, h2, h3, r⟩ := x
  exact ⟨p, o, n, key, h1, h2, k p o h2 h3, r⟩
variable {R : Result → Shared → Prop} {I : Addr} {fp wr : List Addr} {G : Array GenState → Array GenState → Prop} {St : Nat → Shared → Prop} {items : Array Value}
variable {E : Value → Shared → Prop} {s : Shared}
end
end D
end
section
set_option linter.all false
set_option Elab.async false
set_option maxRecDepth 100000
set_option autoImplicit false
namespace D
open PySem PySem.Spec PyProof.Rows L2
/-- a pair of a dict, as a tuple -/
def pairTT (p : D.Key × T) : T := .tuple [keyT p.1, p.2]
/-- d = dict(pairs), of unlike keys -/
def dOfN (i : Nat) (f : Fe) : Fs := fun ε => (f ε).bind fun t => match t with
  | .list ts => (pairsD ts).bind fun kvs => if (kvs.map (·.1)).Nodup ∧ kvs.length ≤ 1000 then some (.nx (ε.set i (some (.dic kvs)))) else none
  | _ => none
section
variable {X : Cx}
variable {a b e : Expr} {f g : Fe} {x y : Str} {p px py pos pos2 : Pos}
end
end D
end
section
set_option linter.all false
set_option Elab.async false
set_option maxRecDepth 100000
set_option autoImplicit false
namespace D
open PySem PySem.Spec PyProof.Rows L2
open AutoSeq1 (wpAny_loadPart')
/-- the pairs of a list's items -/
def IteL (K : PySem.W.Frag) (a : Addr) : It :=
  ⟨fun i H => ∃ xs x, SqL K H a xs ∧ xs[i]? = some x, fun i H x H' => ∃ p v, H p = none ∧ x = .ref p ∧ H' = upd H p (.tup [.int i, v]) ∧ ∀ xs, SqL K H a xs → xs[i]? = some v, fun i H => ∃ xs, SqL K H a xs ∧ xs.length ≤ i⟩
theorem turn_enumL {P : Program} {w : World} {K : PySem.W.Frag} {es : List Expr} {k : Nat} {pos : Pos} (a it e : Addr) (hne : e ≠ it) (hai : a ≠ it) (hae : a ≠ e) : Turn P w K (.Tuple es k pos) (IteL K a) [e, it] e (fun i h => (∃ old, IsEnum h e it i old) ∧ h.IsListIter it a i) where
  mem := by simp
  obj := fun i h st b hb => by
    obtain ⟨⟨old, he⟩, o, ho, hc, hd⟩ := st
    rcases List.mem_cons.mp hb with rfl | hb
    · exact ⟨_, he, fun v z => by
        have z' : Data.fields _ = Data.cell v := z
        cases z'⟩
    · have e1 : b = it := by simpa using hb
      subst e1
      exact ⟨o, ho, fun v z => by rw [hd] at z; cases z⟩
  keep := fun i h h' st kk => by
    obtain ⟨⟨old, he⟩, st2⟩ := st
    exact ⟨⟨old, kk e (by simp) _ he⟩, st2.at fun o q => kk it (by simp) o q⟩
  item := by
    intro X hP hw hK hc i pins s σ H E I hf st hg
    subst hP hw hK
    obtain ⟨xs, x, hq, hx⟩ := hg
    obtain ⟨its, rv, p, hz⟩ := I.list hq
    obtain ⟨u, hu, ru⟩ := rv.get hx
    obtain ⟨⟨old, he⟩, hit⟩ := st
    obtain ⟨f0, f1, f2, f3, f4, f5⟩ := hf e (by simp)
    obtain ⟨g0, g1, g2, g3, g4, g5⟩ := hf it (by simp)
    have hi : i < its.toArray.size := by
      rw [List.size_toArray]
      exact (List.getElem?_eq_some_iff.mp hu).1
    have hnf : e ∉ [it, a] := by
      intro z
      rcases List.mem_cons.mp z with z | z
      · exact hne z
      · have z' : e = a := by simpa using z
        exact hae z'.symm
    refine wpAny_pyNext_enum_itemD (Draws.list (A := X.A.in1) (I.ok.hd hc) it a hai its.toArray) he ⟨hit, p.isList⟩ hi hne hnf fun x' h' tk hP' ho hs' hT hsz hk => ?_
    have ex : x' = u := by
      have := hP'
      rw [← Array.getElem?_toList] at this
      rw [show (its.toArray).toList = its from rfl, hu] at this
      exact (Option.some.inj this).symm
    subst ex
    refine ⟨_, rfl, wpAny_letOwnedTupleGo_enum ho fun h2 he2 hs2 => ?_⟩
    have helt : e < s.heap.objs.size := Heap.lt_size he
    have hilt : it < s.heap.objs.size := by obtain ⟨o, ho', _⟩ := hit; exact Heap.lt_size ho'
    -- the new tuple, e and it turned
    have k2 : ∀ b o, b ≠ e → b ≠ it → s.heap.get? b = some o → h2.get? b = some o := fun b o h1 h3 q => hs2.extBut b o h1 (hk b o h1 h3 q)
    have fr : H s.heap.objs.size = none := I.hok.fresh (Nat.le_refl _)
    have hT2 : h2.get? s.heap.objs.size = some { cls := .type "tuple", data := .seq #[.int i tk, x'] } := hs2.extBut _ _ (Nat.ne_of_gt helt) hT
    have nH : ∀ b o, H b = some o → b ≠ e ∧ b ≠ it := fun b o q => ⟨fun z => (by rw [z, f0] at q; cases q), fun z => (by rw [z, g0] at q; cases q)⟩
    have hok2 : HOk X.prog X.w (upd H s.heap.objs.size (.tup [.int i, x])) h2 := by
      intro b o q
      by_cases hb : b = s.heap.objs.size
      · subst hb
        rw [upd_same] at q
        cases q
        exact ⟨by show 2 ≤ sizeLine; decide, [.int i tk, x'], .cons ⟨tk, rfl⟩ (.cons ru .nil), ⟨_, hT2, rfl, _, rfl⟩⟩
      · rw [upd_ne hb] at q
        refine (I.hok b o q).stay (fun c v hc' q' => k2 c v ?_ ?_ q') (fun c q' => ?_) fun c ys q' => ?_
        · rcases hc' with rfl | hc'
          · exact (nH _ _ q).1
          · exact (nH _ _ hc').1
        · rcases hc' with rfl | hc'
          · exact (nH _ _ q).2
          · exact (nH _ _ hc').2
        · rw [upd_ne (ne_of_none q' fr)]
          exact q'
        · rw [upd_ne (ne_of_none q' fr)]
          exact q'
    have I2 : L2.Inv X pins σ (upd H s.heap.objs.size (.tup [.int i, x])) { s with heap := h2, toks := tk + 1 } := by
      refine I.step (g' := s.gens) (d' := s.drawn) (ch := [e, it]) (fun b hb => ?_) (fun b o _ _ hc' q _ => k2 b o (fun z => hc' (by simp [z])) (fun z => hc' (by simp [z])) q) (fun b o _ _ hc' q _ => ⟨o.slots, k2 b o (fun z => hc' (by simp [z])) (fun z => hc' (by simp [z])) q⟩) (fun b o _ q n => ?_)
        (fun b o hc' q => ⟨o, k2 b o (fun z => hc' (by simp [z])) (fun z => hc' (by simp [z])) q⟩) (fun b ys q => by rw [upd_ne (ne_of_none q fr)]; exact q) (fun b o u q => by rw [upd_ne (ne_of_none q fr)]; exact q) (fun b ps q => ⟨#[], by rw [upd_ne (ne_of_none q fr), q]; simp⟩) (fun m hm => ?_) hok2 I.bare
      · rcases List.mem_cons.mp hb with rfl | hb
        · exact ⟨f3, f1, f4, f5⟩
        · have : b = it := by simpa using hb
          subst this
          exact ⟨g3, g1, g4, g5⟩
      · rw [upd_ne (Nat.ne_of_lt (Heap.lt_size q))]
        exact n
      · obtain ⟨o, es', ep, ho', r⟩ := hm
        exact ⟨o, es', ep, k2 _ o (Ne.symm f1) (Ne.symm g1) ho', r⟩
    refine ⟨.ref s.heap.objs.size, _, I2, rfl, ⟨s.heap.objs.size, x, fr, rfl, rfl, fun ys hy => by rw [I.list_inj hy hq]; exact hx⟩, ⟨⟨_, by simpa using he2⟩, hs'.1.at fun o q => (hs2.2 it hne.symm).trans q⟩, fun b hb => ?_⟩
    rcases List.mem_cons.mp hb with rfl | hb
    · rw [upd_ne (Nat.ne_of_lt helt)]
      exact f0
    · have : b = it := by simpa using hb
      subst this
      rw [upd_ne (Nat.ne_of_lt hilt)]
      exact g0
  done := by
    intro X hP hw hK hc i pins s σ H E I hf st hg
    subst hP hw hK
    obtain ⟨xs, hq, hx⟩ := hg
    obtain ⟨its, rv, p, hz⟩ := I.list hq
    obtain ⟨⟨old, he⟩, hit⟩ := st
    obtain ⟨g0, g1, g2, g3, g4, g5⟩ := hf it (by simp)
    have hT : s.TypeIs (.ref e) "enumerate" := ⟨_, he, rfl⟩
    have hl := rv.length
    unfold pyNext
    refine wpAny_bind (wpAny_attempt (wpAny_callSpecial?_slot (name := Str.ofString "__next__") hT F.slot_enumerate_next
      (wpAny_call_entry F.slot_enumerate_next hT F.entry_enumerate_next ?_ (F.args_enumerate_next_1 _))))
    show wpAny _ _ (field (.ref e) 2 >>= _) _ _ _
    refine wpAny_bind (wpAny_field he rfl (x := .ref it) rfl ?_)
    refine wpAny_bind (wpAny_nextOf_list_end (I.ok.hd hc) hit p.isList (by simp; omega) fun h' x he' hx' => ?_)
    obtain ⟨o, ho, hc'⟩ := hx'
    refine wpAny_bind (wpAny_isInstance (T := "StopIteration") (b := true) ⟨o, ho, hc'⟩ isSubtype_stop ?_)
    exact wpAny_pure ⟨rfl, I.turned (t' := s.toks) (fun b o hb q => he' b o hb q) g0 g1 g3 g4 g5⟩
  self := fun _ _ _ _ _ st h => by
    obtain ⟨⟨old, he⟩, _⟩ := st
    exact wpAny_pyIter_enum he h

def iEn2 (K : PySem.W.Frag) (ta : TA) : TI := fun σ H R => ta σ H fun vs H1 => ∃ a xs, vs = [.ref a] ∧ ((SqT K H1 a xs ∧ R (Ite K a) H1) ∨ (SqL K H1 a xs ∧ R (IteL K a) H1))
section
variable {X : Cx} {es : List Expr} {k : Nat} {p pos p2 : Pos} {a : Expr} {f : Fe}
theorem pi_enum2 {ta : TA} (hg : Gl X "enumerate") (hm : X.mg "enumerate" = none) (ha : PA X [a] ta) (hs : starEach [a] X.env = [(false, eval a X.env)] := by rfl) : PI X (.Tuple es k p2) (.Call (.Name "enumerate" p) [a] [] pos) (iEn2 X.K ta) := by
  intro pins s σ H R I h
  refine Call_ (ld_blt I hg hm PyProof.Rows.boot_enumerate (PyProof.Rows.callWith_type1 (thn (ha pos pins s σ H _ I h) fun us s1 ⟨vs, H1, I1, r1, q1⟩ => ?_) hs rfl))
  obtain ⟨a, xs, rfl, q1⟩ := q1
  cases r1 with
  | cons r rr =>
    cases rr
    cases r
    have fpo : ∀ b ∈ [s1.heap.objs.size + 1, s1.heap.objs.size], s1.heap.objs.size ≤ b := fun b hb => by
      rcases List.mem_cons.mp hb with rfl | hb
      · exact Nat.le_succ _
      · have : b = s1.heap.objs.size := by simpa using hb
        rw [this]
        exact Nat.le_refl _
    rcases q1 with ⟨hq, q⟩ | ⟨hq, q⟩
    · obtain ⟨its, rv, pl, hz⟩ := I1.tuple hq
      have hal : a < s1.heap.objs.size := by obtain ⟨o, ho, _⟩ := pl; exact Heap.lt_size ho
      refine call_enumerate_tuple (show s1.heap.IsTuple a its.toArray from pl) fun h' he hit hsz hk => wpAny_pyIter_enum he ?_
      exact ⟨s1.heap.objs.size + 1, [s1.heap.objs.size + 1, s1.heap.objs.size], _, _, H1, rfl, I1.kept (t' := s1.toks) hk, turn_enum a s1.heap.objs.size (s1.heap.objs.size + 1) (Nat.succ_ne_self _) (Nat.ne_of_lt hal) (Nat.ne_of_lt (Nat.lt_succ_of_lt hal)), ⟨⟨_, he⟩, hit⟩, fun b hb => I1.fpOk (fpo b hb) (I1.hok.fresh (fpo b hb)), q⟩
    · obtain ⟨its, rv, pl, hz⟩ := I1.list hq
      have hal : a < s1.heap.objs.size := by obtain ⟨o, n, ho, _⟩ := pl; exact Heap.lt_size ho
      refine call_enumerate_list pl.isList fun h' he hit hsz hk => wpAny_pyIter_enum he ?_
      exact ⟨s1.heap.objs.size + 1, [s1.heap.objs.size + 1, s1.heap.objs.size], _, _, H1, rfl, I1.kept (t' := s1.toks) hk, turn_enumL a s1.heap.objs.size (s1.heap.objs.size + 1) (Nat.succ_ne_self _) (Nat.ne_of_lt hal) (Nat.ne_of_lt (Nat.lt_succ_of_lt hal)), ⟨⟨_, he⟩, hit⟩, fun b hb => I1.fpOk (fpo b hb) (I1.hok.fresh (fpo b hb)), q⟩
theorem itOk_enumL {K : PySem.W.Frag} {a : Addr} {F1 : Addr → Prop} {H1 : Hp} {ts : List T} {vs : List V} (hf : F1 a) (hr : Rd H1 a (.lst vs)) (q : RepL K F1 H1 ts vs) : ItOk K (IteL K a) F1 H1 (enum ts) where
  go := fun i F H t kp d e => by
    have hi := (List.getElem?_eq_some_iff.mp e).1
    simp only [enum, List.length_map, List.length_zipIdx] at hi
    obtain ⟨v, h1, _⟩ := q.get (List.getElem?_eq_getElem hi)
    exact ⟨vs, v, .inl (kp.lst _ _ hf hr).2, h1⟩
  yld := fun i F H t x H' kp d e y => by
    obtain ⟨p, v, hp, rfl, rfl, y⟩ := y
    have hi := (List.getElem?_eq_some_iff.mp e).1
    simp only [enum, List.length_map, List.length_zipIdx] at hi
    obtain ⟨v', h1, h2⟩ := (q.kp kp).get (List.getElem?_eq_getElem hi)
    have h3 := y vs (.inl (kp.lst _ _ hf hr).2)
    rw [h1] at h3
    cases h3
    have x1 := Ext.laid (o := .tup [.int i, v]) d hp
    refine ⟨F, x1, ?_⟩
    have et : t = .tuple [.int i, ts[i]] := by
      simp only [enum, List.getElem?_map, List.getElem?_zipIdx, List.getElem?_eq_getElem hi] at e
      simpa using e.symm
    subst et
    simp only [Rep]
    exact ⟨p, _, rfl, SqT.of upd_same, RepL.cons (by simp [Rep]) (RepL.cons (h2.ext x1) RepL.nil)⟩
  stop := fun i F H kp hl => ⟨vs, .inl (kp.lst _ _ hf hr).2, by
    simp only [enum, List.length_map, List.length_zipIdx] at hl
    rw [← q.length]
    exact hl⟩
/-- for a, b in enumerate(t), t a tuple or a list -/
theorem i_enumS (hm : X.mg "enumerate" = none) (ha : PEv X a f) (hg : Gl X "enumerate" := by rfl) (hs : starEach [a] X.env = [(false, eval a X.env)] := by rfl) (hs2 : starEach [a] X.env = (false, eval a X.env) :: starEach [] X.env := by rfl) :
    PIt X (.Tuple es k p2) (.Call (.Name "enumerate" p) [a] [] pos) (itEnum (itSeq f)) := PI_imp (pi_enum2 hg hm (pa_cons ha pa_nil hs2) hs) fun σ H R ⟨F₀, H₀, O, F, ε, ts, r, e, k⟩ => by
  simp only [itEnum, itSeq, Option.map_eq_some_iff, Option.bind_eq_some_iff] at e
  obtain ⟨us, ⟨t, et, e⟩, rfl⟩ := e
  split at e
  · cases e
    refine ⟨F₀, H₀, O, F, ε, _, r, et, fun v F' H' x q => ?_⟩
    simp only [Rep] at q
    obtain ⟨a, vs, rfl, hs, hr⟩ := q
    exact ⟨a, vs, rfl, .inl ⟨hs, k _ F' H' x (itOk_enum hs hr)⟩⟩
  · cases e
    refine ⟨F₀, H₀, O, F, ε, _, r, et, fun v F' H' x q => ?_⟩
    simp only [Rep] at q
    obtain ⟨a, vs, rfl, hf, hs, hr⟩ := q
    exact ⟨a, vs, rfl, .inr ⟨.inl hs, k _ F' H' x (itOk_enumL hf hs hr)⟩⟩
  · cases e
end
end D
end
section
set_option linter.all false
set_option Elab.async false
set_option maxRecDepth 100000
set_option autoImplicit false
namespace D
open PySem PySem.Spec PyProof.Rows L2
open AutoSeq1 (wpAny_loadPart')
section
variable {prog : Program} {w : World} {A : Around} {E : Value → Shared → Prop} {s : Shared}
theorem collect_range {Q : List Value → Shared → Prop} {r : Addr} {a b c : Int} {t u v : Tok} {n : Nat} (hh : A.handled = none) (hr : IsRange s.heap r a b c t u v) (hsm : Builtin.Range.small a b c = true) (hn : Builtin.Range.rangeSize a b c = n) (hl : n ≤ 2 ^ 24)
    (hQ : ∀ h' tk acc', (∀ b o, s.heap.get? b = some o → h'.get? b = some o) → ItemsOf (fun i v => ∃ t, v = .int (a + i * c) t) acc' n → Q acc'.toList { s with heap := h', toks := tk }) :
    wpAny (model prog w) A (collect (.ref r)) Q E s := by
  unfold collect
  refine wpAny_bind (wpAny_runValue (codeAny_builtin F.entry_proto_collect ?_))
  rw [Around.under_plainId F.plain_proto_collect _]
  show wpAny _ A.in1 (newList [] >>= fun x => again (.builtin "list.__iadd__" ⟨[x, .ref r], []⟩)) _ _ s
  refine wpAny_bind (wpAny_newObj_type (wpAny_pure ⟨plainId_quiet F.plain_list_iadd _, codeAny_builtin F.entry_list_iadd ?_⟩))
  rw [Around.under_plainId F.plain_list_iadd _]
  show wpAny _ A.in1 (Builtin.List.listExtendWith (.ref s.heap.objs.size) (.ref r) (.ref s.heap.objs.size)) _ _ _
  have hS : (s.heap.push { cls := .type "list", data := .seq ([] : List Value).toArray }).get? s.heap.objs.size = some { cls := .type "list", data := .seq #[] 0 } := Heap.get?_push_size _ rfl
  have fin' : ∀ h' tk acc' c', (∀ b o, b ≠ s.heap.objs.size → (s.heap.push { cls := .type "list", data := .seq ([] : List Value).toArray }).get? b = some o → h'.get? b = some o) → h'.get? s.heap.objs.size = some { cls := .type "list", dict := none, data := .seq acc' c', slots := #[] } → ItemsOf (fun i v => ∃ t, v = .int (a + i * c) t) acc' n →
      wpAny (model prog w) A (match Value.ref s.heap.objs.size with
        | Value.ref x => do
          match (← load x).data with
            | Data.seq xs _ => pure xs.toList
            | _ => unsupported "internal:collect"
        | _ => unsupported "internal:collect") Q E { s with heap := h', toks := tk } := fun h' tk acc' c' hk hS' hacc => by
    show wpAny _ A (load s.heap.objs.size >>= _) _ _ _
    refine wpAny_bind (wpAny_load hS' (wpAny_pure ?_))
    exact hQ h' tk acc' (fun b o e => hk b o (Nat.ne_of_lt (Heap.lt_size e)) (Heap.get?_push_of_some _ e)) hacc
  refine wpAny_mono (wpAny_extend_range (A := A) (R := fun x s' => x = .ok (.ret (.ref s.heap.objs.size)) ∧ ∃ h' tk acc' c', (∀ b o, b ≠ s.heap.objs.size → (s.heap.push { cls := .type "list", data := .seq ([] : List Value).toArray }).get? b = some o → h'.get? b = some o) ∧ h'.get? s.heap.objs.size = some { cls := .type "list", dict := none, data := .seq acc' c', slots := #[] } ∧ ItemsOf (fun i v => ∃ t, v = .int (a + i * c) t) acc' n ∧ s' = { s with heap := h', toks := tk })
    (s := { s with heap := s.heap.push { cls := .type "list", data := .seq ([] : List Value).toArray } }) hh (Heap.get?_push_of_some _ hr) hsm hn hl s.heap.objs.size (.ref s.heap.objs.size) 0 hS fun h' tk acc' c' hk hS' hacc => ⟨rfl, h', tk, acc', c', hk, hS', hacc, rfl⟩) (fun f s' h => ?_) (fun e s' h => ?_)
  · cases f with
    | done f =>
      obtain ⟨e, h', tk, acc', c', k1, k2, k3, rfl⟩ := h
      cases e
      exact fin' h' tk acc' c' k1 k2 k3
    | again c' => exact ⟨h.1, codeAny_mono h.2 fun x s'' hx => by obtain ⟨rfl, h', tk, acc', c', k1, k2, k3, rfl⟩ := hx; exact fin' h' tk acc' c' k1 k2 k3⟩
  · exact absurd h.1 (by simp)
theorem meets_tuple_rng (r : Addr) (a b c : Int) (t u v : Tok) (n : Nat) (hsm : Builtin.Range.small a b c = true) (hn : Builtin.Range.rangeSize a b c = n) (hl : n ≤ 2 ^ 24) :
    Meets (Builtin.«tuple.__new__» ⟨[.type "tuple", .ref r], []⟩)
      (fun A R s => A.handled = none ∧ IsRange s.heap r a b c t u v ∧ ∀ (h' : Heap) (tk : Nat) (acc : Array Value), (∀ b o, s.heap.get? b = some o → h'.get? b = some o) → ItemsOf (fun i v => ∃ t, v = .int (a + i * c) t) acc n → R (.ok (.ret (.ref h'.objs.size))) { s with heap := h'.push { cls := .type "tuple", data := .seq acc }, toks := tk }) :=
  .of_wp fun prog w A R s h => by
    obtain ⟨hp, g, d, tk, os⟩ := s; obtain ⟨hh, ht, h⟩ := h
    have hsub := sub_tuple_self
    have hinit := init_tuple_lookup
    have hmh := madeHere_tuple
    have hT : Shared.TypeIs ⟨hp, g, d, tk, os⟩ (.ref r) "range" := ⟨_, ht, rfl⟩
    wp_walk using wpAny_loadPart' ht, wpAny_typeOf hT, collect_range (by simpa using hh) ht hsm hn hl
    intro h' tk' acc hk hacc
    show wpAny _ _ (Builtin.Tuple.tupleExact acc.toList.toArray >>= fun v => ret v) _ _ _
    unfold Builtin.Tuple.tupleExact
    have hz : acc.size ≤ sizeLine := by rw [hacc.1, sizeLine_eq]; omega
    refine wpAny_bind (wpAny_newObj_type ?_ (by show acc.toList.toArray.size ≤ sizeLine; simpa using hz))
    refine wpAny_pure ⟨_, rfl, ?_⟩
    have e : acc.toList.toArray = acc := by simp
    rw [e]
    exact h h' tk' acc hk hacc
theorem call_tuple_rng {r : Addr} {a b c : Int} {t u v : Tok} {n : Nat} {Q : Value → Shared → Prop} (hh : A.handled = none) (hr : IsRange s.heap r a b c t u v) (hsm : Builtin.Range.small a b c = true) (hn : Builtin.Range.rangeSize a b c = n) (hl : n ≤ 2 ^ 24)
    (h : ∀ (h' : Heap) (tk : Nat) (acc : Array Value), (∀ b o, s.heap.get? b = some o → h'.get? b = some o) → ItemsOf (fun i v => ∃ t, v = .int (a + i * c) t) acc n → Q (.ref h'.objs.size) { s with heap := h'.push { cls := .type "tuple", data := .seq acc }, toks := tk }) :
    wpAny (model prog w) A (call (.type "tuple") [.ref r]) Q E s :=
  callType_new F.called_tuple (by decide) (F.typeCall_tuple_1 _) (F.newCall_tuple_1 _) (fun obj => F.args_object_init_2 obj _) F.entry_tuple_new
    (meets_tuple_rng r a b c t u v n hsm hn hl) ⟨by simpa using hh, hr, fun h' tk acc hk hacc => ⟨⟨_, Heap.get?_push_size _ rfl, rfl⟩, h h' tk acc hk hacc⟩⟩
end
end D
end
section
set_option linter.all false
set_option Elab.async false
set_option maxRecDepth 100000
set_option autoImplicit false
namespace D
open PySem PySem.Spec PyProof.Rows L2
/-! ### tuple(range(n)), any(..), max(..) -/
def oTupRng : List T → Option T
  | [.int j] => if 0 ≤ j ∧ j ≤ 100000 then some (.tuple (rng 0 j)) else none
  | _ => none
def boolsOf : List T → Option (List Bool)
  | [] => some []
  | .bool b :: ts => (boolsOf ts).map fun r => b :: r
  | _ :: _ => none
def oAny : List T → Option T
  | [.list xs] => (boolsOf xs).map fun bs => .bool (bs.any id)
  | _ => none
def maxI : List Int → Int
  | [] => 0
  | [x] => x
  | x :: y :: r => max x (maxI (y :: r))
def oMaxL : List T → Option T
  | [.list xs] => (intsOf xs).bind fun ns => if ns ≠ [] then some (.int (maxI ns)) else none
  | _ => none
theorem boolsOf_eq : ∀ {ts : List T} {bs : List Bool}, boolsOf ts = some bs → ts = bs.map .bool
  | [], bs, e => by
    cases e
    rfl
  | t :: ts, bs, e => by
    unfold boolsOf at e
    split at e
    · rename_i h
      cases h
    · rename_i h
      cases h
      simp only [Option.map_eq_some_iff] at e
      obtain ⟨r, e1, rfl⟩ := e
      rw [boolsOf_eq e1]
      rfl
    · cases e
section
variable {K : PySem.W.Frag} {F : Addr → Prop} {H : Hp}
theorem repL_bools : ∀ {bs : List Bool} {vs : List V}, RepL K F H (bs.map .bool) vs → vs = bs.map V.bl
  | [], vs, h => by simpa [RepL] using h
  | n :: ns, vs, h => by
    simp only [List.map_cons, RepL, Rep] at h
    obtain ⟨v, r, rfl, rfl, z⟩ := h
    rw [repL_bools z]
    rfl
end
section
variable {X : Cx} {a e : Expr} {es : List Expr} {f : Fe} {fs : List Fe} {p p2 pos pos2 : Pos}
theorem call_rangeO : CallR X (.type "range") (fun xs H Q => ∃ j : Int, xs = [.int j] ∧ ∀ l, H l = none → Q (.ref l) (upd H l (.rng 0 j))) := by
  intro pins s σ H xs us Q I r h
  obtain ⟨j, rfl, q⟩ := h
  obtain ⟨u, rfl, rx⟩ := vals1 r
  obtain ⟨t, rfl⟩ := rx
  exact call_range_1 ⟨.ref s.heap.objs.size, _, I.laid (o := .rng 0 j) (fun b o e => Heap.get?_push_of_some _ e) (Nat.le_refl _) ⟨_, _, _, Heap.get?_push_size _ rfl⟩, rfl, q _ (I.hok.fresh (Nat.le_refl _))⟩
theorem items_vals {n : Nat} {acc : Array Value} (h : ItemsOf (fun i v => ∃ t, v = .int (0 + i * 1) t) acc n) : Vals ((List.range n).map fun (k : Nat) => V.int (k : Int)) acc.toList := by
  obtain ⟨h1, h2⟩ := h
  have h2' : ∀ (j : Nat) v, acc.toList[j]? = some v → ∃ t, v = .int (j : Int) t := fun j v e => by
    obtain ⟨t, rfl⟩ := h2 j v (by rw [← Array.getElem?_toList]; exact e)
    exact ⟨t, by congr 1; omega⟩
  rw [← Array.length_toList] at h1
  clear h2
  generalize acc.toList = l at *
  subst h1
  have key : ∀ (l : List Value) (c : Nat), (∀ (j : Nat) v, l[j]? = some v → ∃ t, v = .int ((c + j : Nat) : Int) t) → Vals ((List.range' c l.length).map fun (k : Nat) => V.int (k : Int)) l := by
    intro l
    induction l with
    | nil => intro c _; exact .nil
    | cons v l ih =>
      intro c h
      rw [List.length_cons, List.range'_succ, List.map_cons]
      obtain ⟨t, rfl⟩ := h 0 v rfl
      refine .cons ⟨t, rfl⟩ (ih (c + 1) fun j v e => ?_)
      obtain ⟨t, rfl⟩ := h (j + 1) v (by simpa using e)
      exact ⟨t, by congr 1; omega⟩
  rw [List.range_eq_range']
  exact key l 0 fun j v e => by simpa using h2' j v e
theorem call_tupleR (hc : X.calm = true) : CallR X (.type "tuple") (fun xs H Q => ∃ (p : Addr) (n : Nat), xs = [.ref p] ∧ H p = some (.rng 0 n) ∧ n ≤ 100000 ∧ ∀ l, H l = none → Q (.ref l) (upd H l (.tup ((List.range n).map fun (k : Nat) => V.int (k : Int))))) := by
  intro pins s σ H xs us Q I r h
  obtain ⟨p, n, rfl, hq, hn, q⟩ := h
  obtain ⟨u, rfl, rx⟩ := vals1 r
  cases rx
  obtain ⟨t, u, v, ho⟩ := I.hok p _ hq
  refine call_tuple_rng (n := n) (I.ok.hd hc) ho (small_one (by omega) (by omega) (by omega) (by omega)) (by rw [rangeSize_one]; split <;> omega) (by omega) fun h' tk acc kp hacc => ?_
  have hv := items_vals hacc
  have I1 : Inv X pins σ H { s with heap := h', toks := tk } := I.kept (t' := tk) kp
  have I2 : Inv X pins σ (upd H h'.objs.size (.tup ((List.range n).map fun (k : Nat) => V.int (k : Int)))) { s with heap := h'.push { cls := .type "tuple", data := .seq acc }, toks := tk } :=
    I1.laid (t' := tk) (fun b o e => Heap.get?_push_of_some _ e) (Nat.le_refl _) (show ObjOk X.prog X.w _ _ _ (.tup _) from ⟨by rw [List.length_map, List.length_range, sizeLine_eq]; omega, acc.toList, hv, by rw [show acc.toList.toArray = acc from by simp]; exact IsTup.new _ _⟩)
  exact ⟨.ref h'.objs.size, _, I2, rfl, q _ (I1.hok.fresh (Nat.le_refl _))⟩
theorem q_tupRng (hc : X.calm = true) (hs : X.mg "tuple" = none) (ht : X.mg "range" = none) (ha : PEr X a f) (hg : Gl X "tuple" := by rfl) (hg2 : Gl X "range" := by rfl)
    (he : starEach [a] X.env = (false, eval a X.env) :: starEach [] X.env := by rfl) (he2 : starEach [.Call (.Name "range" p2) [a] [] pos2] X.env = (false, eval (.Call (.Name "range" p2) [a] [] pos2) X.env) :: starEach [] X.env := by rfl)
    (hpl : (backTo pos (starEach [] X.env)).any (·.1) = false := by rfl) (hpl2 : (backTo pos2 (starEach [] X.env)).any (·.1) = false := by rfl) :
    PEv X (.Call (.Name "tuple" p) [.Call (.Name "range" p2) [a] [] pos2] [] pos) (opN oTupRng [f]) :=
  PE_imp (pe_callTy (call_tupleR hc) hg hs (by decide +kernel) (pa_cons (pe_callTy call_rangeO hg2 ht (by decide +kernel) (a_consR ha a_nilR he) (he := he) (hpl := hpl2)) pa_nil he2) (he := he2) (hpl := hpl)) fun σ H Q ⟨F₀, H₀, O, F, ε, t, r, e, k⟩ => by
  simp only [opN, args, Option.bind_eq_some_iff, Option.map_eq_some_iff] at e
  obtain ⟨ts, ⟨t0, e0, us, eu, rfl⟩, e⟩ := e
  cases eu
  unfold oTupRng at e
  split at e
  next j hx =>
    cases hx
    split at e
    next hz =>
      cases e
      obtain ⟨n, rfl⟩ : ∃ n : Nat, j = n := ⟨j.toNat, by omega⟩
      refine ⟨F₀, H₀, O, F, ε, [.int n], r, by simp [args, e0], fun vs F1 H1 x1 q1 => ?_⟩
      cases q1 with
      | cons q1 q2 =>
        cases q2
        rw [q1.int]
        refine ⟨_, rfl, fun l hl => ⟨l, n, rfl, upd_same, by omega, fun l2 hl2 => ?_⟩⟩
        have x2 := Ext.laid (o := .rng 0 (n : Int)) x1.dom hl
        have x3 := Ext.laid (o := .tup ((List.range n).map fun (k : Nat) => V.int (k : Int))) x2.dom hl2
        refine k _ _ _ ((x1.trans x2).trans x3) ?_
        simp only [Rep]
        refine ⟨l2, _, rfl, SqT.of upd_same, ?_⟩
        have := repL_ints (K := X.K) (F := F1) (H := upd (upd H1 l (.rng 0 (n : Int))) l2 (.tup ((List.range n).map fun (k : Nat) => V.int (k : Int)))) ((List.range n).map fun (k : Nat) => (k : Int))
        simp only [List.map_map, Function.comp_def] at this
        simp only [rng, Int.sub_zero, Int.toNat_natCast, Int.zero_add]
        exact this
    next => cases e
  next => cases e
theorem call_anyL (hc : X.calm = true) : CallR X (.builtin "any") (fun xs H Q => ∃ (p : Addr) (bs : List Bool), xs = [.ref p] ∧ SqL X.K H p (bs.map V.bl) ∧ Q (.bl (bs.any id)) H) := by
  intro pins s σ H xs us Q I r h
  obtain ⟨p, bs, rfl, hq, q⟩ := h
  obtain ⟨u, rfl, rx⟩ := vals1 r
  cases rx
  obtain ⟨its, r', pl, hz⟩ := I.list hq
  have hlt : p < s.heap.objs.size := by obtain ⟨o, n, ho, _⟩ := pl; exact Heap.lt_size ho
  have hlen : its.length = bs.length := by have := r'.length; simpa using this.symm
  refine PySem.call_any_walk (wpAny_pyIter_list (items := its.toArray) pl.isList ?_)
  refine ⟨_, [s.heap.objs.size, p], [s.heap.objs.size], _, _, _, (fun i => bs.getD i false), rfl, Walks.list (A := X.A.in1) (I.ok.hd hc) _ p (Nat.ne_of_lt hlt) its.toArray, ⟨⟨_, Heap.get?_push_size _ rfl, rfl, rfl⟩, pl.isList.push _⟩, fun i v s' Q' E' hP hQ' => ?_, fun h' tk hk => ?_⟩
  · have hi : its[i]? = some v := by simpa using hP
    have hlt' : i < bs.length := by rw [← hlen]; exact (List.getElem?_eq_some_iff.mp hi).1
    obtain ⟨u', e1, e2⟩ := r'.get (i := i) (x := V.bl bs[i]) (by simp [hlt'])
    rw [hi] at e1
    cases e1
    have e2' : v = .bool bs[i] := e2
    subst e2'
    refine wpAny_truthy_bool ?_
    have : bs.getD i false = bs[i] := by simp [hlt']
    exact this ▸ hQ'
  · have e : ((List.range its.toArray.size).any fun i => bs.getD i false) = bs.any id := by
      rw [List.size_toArray, hlen, Bool.eq_iff_iff, List.any_eq_true, List.any_eq_true]
      constructor
      · rintro ⟨i, hi, hb⟩
        have hi' := List.mem_range.mp hi
        have : bs.getD i false = bs[i] := by simp [hi']
        rw [this] at hb
        exact ⟨bs[i], List.getElem_mem hi', hb⟩
      · rintro ⟨b, hb, e⟩
        obtain ⟨i, hi, rfl⟩ := List.getElem_of_mem hb
        refine ⟨i, List.mem_range.mpr hi, ?_⟩
        have : bs.getD i false = bs[i] := by simp [hi]
        rw [this]
        exact e
    rw [e]
    exact ⟨.bl (bs.any id), H, I.kept (t' := tk) fun b o e => hk b o (by simp only [List.mem_singleton]; exact Nat.ne_of_lt (Heap.lt_size e)) (Heap.get?_push_of_some _ e), rfl, q⟩
theorem q_any (hc : X.calm = true) (hm : X.mg "any" = none) (ha : PAr X (e :: es) fs) (hg : Gl X "any" := by rfl) (he : starEach (e :: es) X.env = (false, eval e X.env) :: starEach es X.env := by rfl) (hpl : (backTo pos (starEach es X.env)).any (·.1) = false := by rfl) :
    PEv X (.Call (.Name "any" p) (e :: es) [] pos) (opN oAny fs) := PE_imp (pe_callB (call_anyL hc) hg hm (by decide +kernel) ha (he := he) (hpl := hpl)) (opN_imp (by
  intro O F H ts t vs Q d q e k
  unfold oAny at e
  split at e
  · simp only [Option.map_eq_some_iff] at e
    obtain ⟨bs, en, rfl⟩ := e
    have := boolsOf_eq en
    subst this
    cases q with
    | cons q1 q2 =>
      cases q2
      obtain ⟨l0, ws, rfl, hl, hr⟩ := q1.lst
      have := repL_bools hr
      subst this
      exact ⟨l0, bs, rfl, .inl hl, k _ F H (Ext.refl d) (by simp [Rep])⟩
  · cases e))
theorem argBest_max : ∀ (ns : List Int) (k : Nat), k < ns.length → ns.getD (argBest (fun i j => decide (ns.getD i 0 > ns.getD j 0)) k) 0 = maxI (ns.take (k + 1)) := by
  have mx : ∀ (l : List Int) (x : Int), l ≠ [] → maxI (l ++ [x]) = max (maxI l) x := by
    intro l
    induction l with
    | nil => intro x h; exact absurd rfl h
    | cons a l ih =>
      intro x _
      cases l with
      | nil => rfl
      | cons b l =>
        have := ih x (by simp)
        simp only [List.cons_append, maxI] at this ⊢
        rw [this, Int.max_assoc]
  intro ns k
  induction k with
  | zero =>
    intro h
    cases ns with
    | nil => simp at h
    | cons a r => rfl
  | succ k ih =>
    intro h
    have i1 := ih (by omega)
    have et : ns.take (k + 1 + 1) = ns.take (k + 1) ++ [ns.getD (k + 1) 0] := by
      rw [List.take_succ (i := k + 1)]
      simp [h]
    rw [et, mx _ _ (by
      intro z
      have h1 := congrArg List.length z
      rw [List.length_take, List.length_nil] at h1
      omega), ← i1]
    simp only [argBest]
    split
    next q =>
      have q' := of_decide_eq_true q
      omega
    next q =>
      have q' : ¬ (ns.getD (k + 1) 0 > ns.getD (argBest (fun i j => decide (ns.getD i 0 > ns.getD j 0)) k) 0) := fun z => q (decide_eq_true z)
      omega
theorem call_maxL (hc : X.calm = true) : CallR X (.builtin "max") (fun xs H Q => ∃ (p : Addr) (ns : List Int), xs = [.ref p] ∧ SqL X.K H p (ns.map V.int) ∧ ns ≠ [] ∧ Q (.int (maxI ns)) H) := by
  intro pins s σ H xs us Q I r h
  obtain ⟨p, ns, rfl, hq, hne, q⟩ := h
  obtain ⟨u, rfl, rx⟩ := vals1 r
  cases rx
  obtain ⟨its, r', pl, hz⟩ := I.list hq
  have hI : IntsAre its ns := intsAre_of r'
  have hlen : its.length = ns.length := hI.length
  have hpos := List.length_pos_iff.mpr hne
  have hlt : p < s.heap.objs.size := by obtain ⟨o, n, ho, _⟩ := pl; exact Heap.lt_size ho
  have val : ∀ (i : Nat) (v : Value), its.toArray[i]? = some v → ∃ t, v = .int (ns.getD i 0) t := fun i v e => hI.int_at i v (by simpa using e)
  refine PySem.call_max_walk (wpAny_pyIter_list (items := its.toArray) pl.isList ?_)
  refine ⟨_, [s.heap.objs.size, p], [s.heap.objs.size], _, _, _, _, rfl, Walks.list (A := X.A.in1) (I.ok.hd hc) _ p (Nat.ne_of_lt hlt) its.toArray, ⟨⟨_, Heap.get?_push_size _ rfl, rfl, rfl⟩, pl.isList.push _⟩, fun b hb => ?_, by simp [hlen]; exact hpos, CmpOf.ints_gt (fun i => ns.getD i 0) val, fun v h' tk hP hk => ?_⟩
  · rw [Heap.size_push]
    simp only [List.mem_cons, List.not_mem_nil, or_false] at hb
    rcases hb with rfl | rfl
    · exact Nat.lt_succ_self _
    · exact Nat.lt_succ_of_lt hlt
  · obtain ⟨t, rfl⟩ := val _ _ hP
    have hs : its.toArray.size - 1 = ns.length - 1 := by simp [hlen]
    rw [hs, argBest_max ns (ns.length - 1) (by omega), show ns.length - 1 + 1 = ns.length from by omega, List.take_length]
    exact ⟨.int (maxI ns), H, I.kept (t' := tk) fun b o e => hk b o (by simp only [List.mem_singleton]; exact Nat.ne_of_lt (Heap.lt_size e)) (Heap.get?_push_of_some _ e), ⟨t, rfl⟩, q⟩
theorem q_maxL (hc : X.calm = true) (hm : X.mg "max" = none) (ha : PAr X (e :: es) fs) (hg : Gl X "max" := by rfl) (he : starEach (e :: es) X.env = (false, eval e X.env) :: starEach es X.env := by rfl) (hpl : (backTo pos (starEach es X.env)).any (·.1) = false := by rfl) :
    PEv X (.Call (.Name "max" p) (e :: es) [] pos) (opN oMaxL fs) := PE_imp (pe_callB (call_maxL hc) hg hm (by decide +kernel) ha (he := he) (hpl := hpl)) (opN_imp (by
  intro O F H ts t vs Q d q e k
  unfold oMaxL at e
  split at e
  · simp only [Option.bind_eq_some_iff] at e
    obtain ⟨ns, en, e⟩ := e
    split at e
    next hz =>
      cases e
      have := intsOf_eq en
      subst this
      cases q with
      | cons q1 q2 =>
        cases q2
        obtain ⟨l0, ws, rfl, hl, hr⟩ := q1.lst
        have := repL_intsE hr
        subst this
        exact ⟨l0, ns, rfl, .inl hl, hz, k _ F H (Ext.refl d) (by simp [Rep])⟩
    next => cases e
  · cases e))
end
end D
end
section
set_option linter.all false
set_option Elab.async false
set_option maxRecDepth 100000
set_option autoImplicit false
namespace D
open PySem PySem.Spec PyProof.Rows L2
/-! ### tuples of tuples, compared -/
mutual
def ltD : T → T → Option Bool
  | .int a, .int b => some (decide (a < b))
  | .tuple xs, .tuple ys => lexD xs ys
  | _, _ => none
def lexD : List T → List T → Option Bool
  | [], [] => some false
  | [], _ :: _ => some true
  | _ :: _, [] => some false
  | x :: xs, y :: ys => if PyData.eqv x y then lexD xs ys else ltD x y
end
def LtAt (A : Around) (s : Shared) (y x : Value) (b : Bool) : Prop :=
  ∀ (prog : Program) (w : World) (E : Value → Shared → Prop) (Q : Value → Shared → Prop), Q (.bool b) s → wpAny (model prog w) A (richCompare .Lt y x) Q E s
inductive GoodP (A : Around) (s : Shared) (fin : Bool) : List (Value × Value) → Bool → Prop
  | nil : GoodP A s fin [] fin
  | eq {y x : Value} {r : List (Value × Value)} {b : Bool} : SeqAt.EqAt A s y x true → GoodP A s fin r b → GoodP A s fin ((y, x) :: r) b
  | lt {y x : Value} {r : List (Value × Value)} {b : Bool} : SeqAt.EqAt A s y x false → LtAt A s y x b → GoodP A s fin ((y, x) :: r) b
section
open PySem.SeqAt
open PySem.AutoSeq1 (wpAny_loadPart')
open PySem.MeetsSeq PySem.MeetsSeq2 PySem.MeetsSeq3
theorem tuple_lt_gen (l b : Addr) (items items2 : Array Value) (n n2 : Nat) (dd dd2 : Option Addr) (sl sl2 : Array (Option Value)) (z : Bool) :
    Meets (Builtin.«tuple.__lt__» ⟨[.ref l, .ref b], []⟩)
      (fun A R s => s.heap.get? l = some { cls := .type "tuple", dict := dd, data := .seq items n, slots := sl } ∧ s.heap.get? b = some { cls := .type "tuple", dict := dd2, data := .seq items2 n2, slots := sl2 } ∧
        GoodP A.in1 s (decide (items.size < items2.size)) (items.toList.zip items2.toList) z ∧ R (.ok (.ret (.bool z))) s) :=
  .of_wp fun prog w A R s h => by
    obtain ⟨hp, g, d, tk, os⟩ := s; obtain ⟨hl, hb, hg, h⟩ := h
    have f2 := AutoSeq1.sub_tuple_tuple
    wp_walk using wpAny_loadPart' hl, wpAny_loadPart' hb, wpAny_forIn_list _ (fun rest b s' => b.1 = none ∧ s' = ⟨hp, g, d, tk, os⟩ ∧ GoodP A.in1 ⟨hp, g, d, tk, os⟩ (decide (items.size < items2.size)) rest z) _
    case turn =>
      rintro ⟨y, x⟩ rest b s' ⟨hb', rfl, hG⟩
      cases hG with
      | eq he hG =>
        refine wpAny_bind (he prog w _ _ ?_)
        wp_walk
        exact ⟨rfl, rfl, hG⟩
      | lt he hlt =>
        refine wpAny_bind (he prog w _ _ ?_)
        have hri := hlt prog w
        wp_walk using hri
        exact ⟨_, rfl, h⟩
    case fin =>
      rintro ⟨b1, b2⟩ s' ⟨hb', rfl, hG⟩
      simp only at hb'
      subst hb'
      cases hG
      wp_walk
      exact ⟨_, rfl, by simpa [Builtin.Tuple.tupleCompareSizes] using h⟩
    case h =>
      exact ⟨rfl, rfl, hg⟩
mutual
theorem lt_reads : ∀ (da db : T) (A : Around) (s : Shared) (a b : Value) (as bs : List Addr) (r : Bool), Reads s.heap a da as → Reads s.heap b db bs → da.canLay0 = true → db.canLay0 = true → A.units + min da.depth db.depth < cLine → ltD da db = some r → LtAt A s a b r
  | .int i, .int j, A, s, _, _, _, _, r, .int _ t, .int _ u, _, _, _, e => by
    unfold ltD at e
    cases e
    exact fun prog w E Q q => (PyProof.Rows.lt_int q : wpAny (model prog w) A (compareOp .Lt (.int i t) (.int j u)) Q E s)
  | .tuple xs, .tuple ys, A, s, _, _, _, _, r, .tuple (a := l) (o := o) (vs := vs) (n := n) h1 h2 h3 h4, .tuple (a := l') (o := o') (vs := vs') (n := n') k1 k2 k3 k4, ha, hb, hu, e => by
    unfold ltD at e
    simp only [PyData.canLay0] at ha hb
    simp only [PyData.depth] at hu
    have hG := good_reads xs ys A.in1 s vs.toList vs'.toList _ _ r h4 k4 ha hb (room_in hu) e
    obtain ⟨cls, dd, data, sl⟩ := o
    obtain ⟨cls2, dd2, data2, sl2⟩ := o'
    simp only at h2 h3 k2 k3
    subst h2 h3 k2 k3
    rw [Array.length_toList, Array.length_toList] at hG
    exact fun prog w E Q q => richCompare_meets_room (op := .Lt) ⟨_, h1, rfl⟩ ⟨_, k1, rfl⟩ PySem.F.slot_tuple_lt PySem.F.entry_tuple_lt (PySem.F.args_tuple_lt_2 _ _) (tuple_lt_gen l l' vs vs' n n' dd dd2 sl sl2 r)
      ⟨h1, k1, hG, show Value.bool r ≠ Value.notImplemented ∧ Q (.bool r) s from ⟨(fun x => nomatch x), q⟩⟩ (by omega)
  | .none, _, _, _, _, _, _, _, _, _, _, _, _, _, e => by simp [ltD] at e
  | .bool _, _, _, _, _, _, _, _, _, _, _, _, _, _, e => by simp [ltD] at e
  | .str _, _, _, _, _, _, _, _, _, _, _, _, _, _, e => by simp [ltD] at e
  | .list _, _, _, _, _, _, _, _, _, _, _, _, _, _, e => by simp [ltD] at e
  | .dict _, _, _, _, _, _, _, _, _, _, _, _, _, _, e => by simp [ltD] at e
  | .int _, .none, _, _, _, _, _, _, _, _, _, _, _, _, e => by simp [ltD] at e
  | .int _, .bool _, _, _, _, _, _, _, _, _, _, _, _, _, e => by simp [ltD] at e
  | .int _, .str _, _, _, _, _, _, _, _, _, _, _, _, _, e => by simp [ltD] at e
  | .int _, .list _, _, _, _, _, _, _, _, _, _, _, _, _, e => by simp [ltD] at e
  | .int _, .dict _, _, _, _, _, _, _, _, _, _, _, _, _, e => by simp [ltD] at e
  | .int _, .tuple _, _, _, _, _, _, _, _, _, _, _, _, _, e => by simp [ltD] at e
  | .tuple _, .none, _, _, _, _, _, _, _, _, _, _, _, _, e => by simp [ltD] at e
  | .tuple _, .bool _, _, _, _, _, _, _, _, _, _, _, _, _, e => by simp [ltD] at e
  | .tuple _, .str _, _, _, _, _, _, _, _, _, _, _, _, _, e => by simp [ltD] at e
  | .tuple _, .list _, _, _, _, _, _, _, _, _, _, _, _, _, e => by simp [ltD] at e
  | .tuple _, .dict _, _, _, _, _, _, _, _, _, _, _, _, _, e => by simp [ltD] at e
  | .tuple _, .int _, _, _, _, _, _, _, _, _, _, _, _, _, e => by simp [ltD] at e
theorem good_reads : ∀ (xs ys : List T) (A : Around) (s : Shared) (vs ws : List Value) (as bs : List Addr) (r : Bool), ReadsAll s.heap vs xs as → ReadsAll s.heap ws ys bs → PyData.canLayAll0 xs = true → PyData.canLayAll0 ys = true → A.units + min (PyData.depthAll xs) (PyData.depthAll ys) < cLine → lexD xs ys = some r → GoodP A s (decide (vs.length < ws.length)) (vs.zip ws) r
  | [], [], A, s, _, _, _, _, r, .nil, .nil, _, _, _, e => by
    unfold lexD at e
    cases e
    exact .nil
  | [], _ :: _, A, s, _, _, _, _, r, .nil, .cons _ _, _, _, _, e => by
    unfold lexD at e
    cases e
    exact GoodP.nil
  | _ :: _, [], A, s, _, _, _, _, r, .cons _ _, .nil, _, _, _, e => by
    unfold lexD at e
    cases e
    exact GoodP.nil
  | x :: xs, y :: ys, A, s, _, _, _, _, r, .cons r1 r2, .cons q1 q2, ha, hb, hu, e => by
    simp only [PyData.canLayAll0, Bool.and_eq_true] at ha hb
    simp only [PyData.depthAll] at hu
    unfold lexD at e
    have he := eqAt_reads x y A s _ _ _ _ r1 q1 ha.1 hb.1 (room_head hu)
    split at e
    next h =>
      rw [h] at he
      have ih := good_reads xs ys A s _ _ _ _ r r2 q2 ha.2 hb.2 (room_tail hu) e
      rw [List.zip_cons_cons]
      simp only [List.length_cons, Nat.add_lt_add_iff_right]
      exact .eq he ih
    next h =>
      rw [Bool.not_eq_true] at h
      rw [h] at he
      rw [List.zip_cons_cons]
      exact .lt he (lt_reads x y A s _ _ _ _ r r1 q1 ha.1 hb.1 (room_head hu) e)
end
end
/-! ### the least of a list -/
def minFrom (b : T) : List T → Option T
  | [] => some b
  | d :: ds => (ltD d b).bind fun z => minFrom (if z then d else b) ds
def minD : List T → Option T
  | [] => none
  | d :: ds => minFrom d ds
def oMinD : List T → Option T
  | [.list xs] => if okL xs then minD xs else none
  | _ => none
def oLtD (a b : T) : Option T := if okT a && okT b then (ltD a b).map .bool else none
theorem okL_mem : ∀ {ts : List T} {t : T}, PyData.canLayAll0 ts = true → t ∈ ts → t.canLay0 = true ∧ t.depth ≤ PyData.depthAll ts
  | x :: r, t, h, hm => by
    simp only [PyData.canLayAll0, Bool.and_eq_true] at h
    simp only [PyData.depthAll]
    rcases List.mem_cons.mp hm with rfl | hm
    · exact ⟨h.1, Nat.le_max_left _ _⟩
    · have := okL_mem h.2 hm
      exact ⟨this.1, Nat.le_trans this.2 (Nat.le_max_right _ _)⟩
section
variable {prog : Program} {w : World} {A : Around} {R : Result → Shared → Prop} {I : Addr} {fp wr : List Addr} {G : Array GenState → Array GenState → Prop} {St : Nat → Shared → Prop} {items : Array Value}
theorem minLoop_h (W : WalksS prog w A.in1 I fp wr G items.size (fun i v => items[i]? = some v) St) (S : Addr) (hSf : S ∉ fp) (h0 : Heap) (hf : ∀ b ∈ S :: wr, h0.get? b = none) (ds : List T) (hlen : items.size = ds.length)
    (hrd : ∀ (i : Nat) v d, items[i]? = some v → ds[i]? = some d → ∃ as, Reads h0 v d as) (hok : PyData.canLayAll0 ds = true) (hdp : PyData.depthAll ds ≤ 60) (hu : A.in1.units + 60 < cLine) (dr : T) :
    ∀ (k j : Nat) (s : Shared) (ib : Nat) (vb : Value) (db : T) (c : Nat), items.size - (j + 1) = k → j + 1 ≤ items.size → St (j + 1) s → (∀ b o, h0.get? b = some o → s.heap.get? b = some o) → items[ib]? = some vb → ds[ib]? = some db →
      s.heap.get? S = some { cls := .type "list", dict := none, data := .seq #[vb, vb] c, slots := #[] } → minFrom db (ds.drop (j + 1)) = some dr →
      (∀ (i : Nat) v s', items[i]? = some v → ds[i]? = some dr → Moved (S :: wr) G s s' → R (.ok (.ret v)) s') → codeAny (model prog w) A (.builtin "min.loop" ⟨[.ref I, .none, .ref S], []⟩) R s := by
  have hSw : S ∉ wr := fun h => hSf (W.sub _ h)
  have sub : ∀ b ∈ wr, b ∈ S :: wr := fun b hb => List.mem_cons_of_mem _ hb
  have nm : (toString "min" ++ toString ".loop" : String) = "min.loop" := by decide
  have off : ∀ {b : Addr}, b ∉ S :: wr → S ≠ b := fun hb h => hb (by rw [h]; exact List.mem_cons_self)
  have kept : ∀ {s s' : Shared}, (∀ b o, h0.get? b = some o → s.heap.get? b = some o) → Moved wr G s s' → ∀ b o, h0.get? b = some o → s'.heap.get? b = some o := fun h1 h2 b o e => h2.heap b o (fun z => by rw [hf b (sub b z)] at e; cases e) (h1 b o e)
  have keptU : ∀ {h : Heap} (g : Obj → Obj), (∀ b o, h0.get? b = some o → h.get? b = some o) → ∀ b o, h0.get? b = some o → (h.update S g).get? b = some o := fun g h1 b o e => (Heap.get?_update_other _ _ (fun z => by rw [← z, hf S List.mem_cons_self] at e; cases e)).trans (h1 b o e)
  intro k
  induction k with
  | zero =>
    intro j s ib vb db c hk hj hst hkp hvb hdb hS hmin hR
    have hin : j + 1 = items.size := by omega
    refine codeAny_builtin F.entry_min_loop ?_
    rw [Around.under_plainId F.plain_min_loop _]
    show wpAny _ A.in1 (seqItems? (.ref S) >>= _) _ _ s
    refine wpAny_bind (wpAny_seqItems hS rfl ?_)
    show wpAny _ A.in1 (tryCatch (pyNext (.ref I)) _ >>= _) _ _ s
    refine wpAny_bind (wpAny_tryCatch (W.done s _ _ (hin ▸ hst) fun s' hm => ?_))
    have hS' := hm.heap S _ hSw hS
    show wpAny _ A.in1 (updateSeq S (fun _ => #[]) >>= _) _ _ _
    refine wpAny_bind (wpAny_updateSeq hS' rfl (wpAny_bind (wpAny_letGo (wpAny_pure ?_))))
    rw [List.drop_of_length_le (by omega)] at hmin
    cases hmin
    exact hR ib vb _ hvb hdb ((hm.mono sub).then_heap (tk := s'.toks) (Nat.le_refl _) fun b o hb e => (Heap.get?_update_other _ _ (off hb)).trans e)
  | succ k ih =>
    intro j s ib vb db c hk hj hst hkp hvb hdb hS hmin hR
    have hlt : j + 1 < items.size := by omega
    refine codeAny_builtin F.entry_min_loop ?_
    rw [Around.under_plainId F.plain_min_loop _]
    show wpAny _ A.in1 (seqItems? (.ref S) >>= _) _ _ s
    refine wpAny_bind (wpAny_seqItems hS rfl ?_)
    show wpAny _ A.in1 (tryCatch (pyNext (.ref I)) _ >>= _) _ _ s
    refine wpAny_bind (wpAny_tryCatch (W.item (j + 1) s _ _ hlt hst fun v s' hP hst' hm => ?_))
    have hS' := hm.heap S _ hSw hS
    have hkp' := kept hkp hm
    have hd : ds[j + 1]? = some (ds[j + 1]'(by omega)) := List.getElem?_eq_getElem (by omega)
    rw [List.drop_eq_getElem_cons (by omega), minFrom] at hmin
    obtain ⟨z, hz, hmin⟩ := Option.bind_eq_some_iff.mp hmin
    obtain ⟨as, ra⟩ := hrd (j + 1) v _ hP hd
    obtain ⟨bs, rb⟩ := hrd ib vb db hvb hdb
    have o1 := okL_mem hok (List.mem_of_getElem? hd)
    have o2 := okL_mem hok (List.mem_of_getElem? hdb)
    have hcmp := lt_reads _ _ A.in1 s' v vb as bs z (Reads.keeps hkp' ra) (Reads.keeps hkp' rb) o1.1 o2.1 (by have := Nat.min_le_left (ds[j + 1]'(by omega)).depth db.depth; omega) hz
    show wpAny _ A.in1 (tryCatch (holding [v, v] (richCompare .Lt v vb >>= _)) _ >>= _) _ _ _
    refine wpAny_bind (wpAny_tryCatch (wpAny_holding (wpAny_bind (hcmp prog w _ _ ?_))))
    refine wpAny_bind (wpAny_holding (wpAny_truthy_bool (wpAny_bind (wpAny_letGo (wpAny_pure ?_)))))
    cases z with
    | true =>
      simp only [if_true] at hmin ⊢
      refine wpAny_bind (wpAny_updateSeq hS' rfl (wpAny_bind (wpAny_letGo ?_)))
      rw [nm]
      refine wpAny_pure ⟨plainId_quiet F.plain_min_loop _, ih (j + 1) _ (j + 1) v _ _ (by omega) hlt (W.frame _ s' _ s'.toks hst' (Nat.le_refl _) fun b hbf o e => ?_) (keptU _ hkp') hP hd (Heap.get?_update_self _ hS' rfl) hmin fun i v' s'' e1 e2 hm'' => ?_⟩
      · exact (Heap.get?_update_other _ _ (fun h : S = b => hSf (by rw [h]; exact hbf))).trans e
      · exact hR i v' s'' e1 e2 (Moved.trans W.gtrans ((hm.mono sub).then_heap (Nat.le_refl _) fun b o hb e => (Heap.get?_update_other _ _ (off hb)).trans e) hm'')
    | false =>
      simp only [Bool.false_eq_true, if_false] at hmin ⊢
      refine wpAny_bind (wpAny_letGo ?_)
      rw [nm]
      refine wpAny_pure ⟨plainId_quiet F.plain_min_loop _, ih (j + 1) _ ib vb db c (by omega) hlt hst' hkp' hvb hdb hS' hmin fun i v' s'' e1 e2 hm'' => ?_⟩
      exact hR i v' s'' e1 e2 (Moved.trans W.gtrans (hm.mono sub) hm'')
variable {E : Value → Shared → Prop} {s : Shared}
theorem call_min_h {l : Addr} {Q : Value → Shared → Prop} (hh : A.handled = none) (hl : s.heap.IsList l items) (ds : List T) (hlen : items.size = ds.length)
    (hrd : ∀ (i : Nat) v d, items[i]? = some v → ds[i]? = some d → ∃ as, Reads s.heap v d as) (hok : PyData.canLayAll0 ds = true) (hdp : PyData.depthAll ds ≤ 60) (hu : A.in1.units + 60 < cLine) (dr : T) (hmin : minD ds = some dr)
    (h : ∀ (i : Nat) v h' tk, items[i]? = some v → ds[i]? = some dr → (∀ b o, s.heap.get? b = some o → h'.get? b = some o) → Q v { s with heap := h', toks := tk }) :
    wpAny (model prog w) A (call (.builtin "min") [.ref l]) Q E s := by
  have nm : (toString "min" ++ toString ".loop" : String) = "min.loop" := by decide
  have hlt : l < s.heap.objs.size := by obtain ⟨o, ho, _⟩ := hl; exact Heap.lt_size ho
  obtain ⟨d0, dt, rfl⟩ : ∃ d0 dt, ds = d0 :: dt := by
    cases ds with
    | nil => cases hmin
    | cons a b => exact ⟨a, b, rfl⟩
  have hpos : 0 < items.size := by rw [hlen]; simp
  refine call_function_tree F.kind_min F.plain_min F.entry_min (F.args_min1 _) ?_
  show wpAny _ A.in1 (Builtin.Builtins.bindParams "min" ["key", "default"] 0 ⟨[], []⟩ >>= _) _ _ s
  refine wpAny_bind (wpAny_of_eq (show Builtin.Builtins.bindParams "min" ["key", "default"] 0 ⟨[], []⟩ = pure [none, none] from rfl) (wpAny_bind (wpAny_pure ?_)))
  refine wpAny_bind (wpAny_pyIter_list hl (wpAny_bind (wpAny_newObj_type ?_)))
  rw [nm]
  have W := (Walks.list (prog := prog) (w := w) (A := A.in1) hh s.heap.objs.size l (Nat.ne_of_lt hlt) items).toS
  have hS : ((s.heap.push { cls := .type "list_iterator", data := .fields #[.ref l, .int 0 0] }).push { cls := .type "list", data := .seq ([] : List Value).toArray }).get? (s.heap.push { cls := .type "list_iterator", data := .fields #[.ref l, .int 0 0] }).objs.size = some { cls := .type "list", dict := none, data := .seq #[] 0, slots := #[] } := Heap.get?_push_size _ rfl
  have eS : (s.heap.push { cls := .type "list_iterator", data := .fields #[.ref l, .int 0 0] }).objs.size = s.heap.objs.size + 1 := Heap.size_push ..
  have hSf : (s.heap.push { cls := .type "list_iterator", data := .fields #[.ref l, .int 0 0] }).objs.size ∉ [s.heap.objs.size, l] := by
    rw [eS]
    simp only [List.mem_cons, List.not_mem_nil, or_false, not_or]
    exact ⟨Nat.ne_of_gt (Nat.lt_succ_self _), Nat.ne_of_gt (Nat.lt_succ_of_lt hlt)⟩
  have hfr : ∀ b ∈ (s.heap.push { cls := .type "list_iterator", data := .fields #[.ref l, .int 0 0] }).objs.size :: [s.heap.objs.size], s.heap.get? b = none := fun b hb => by
    rw [eS] at hb
    refine Heap.get?_none_of_le ?_
    simp only [List.mem_cons, List.not_mem_nil, or_false] at hb
    rcases hb with rfl | rfl
    · exact Nat.le_succ _
    · exact Nat.le_refl _
  have kp0 : ∀ b o, s.heap.get? b = some o → ((s.heap.push { cls := .type "list_iterator", data := .fields #[.ref l, .int 0 0] }).push { cls := .type "list", data := .seq ([] : List Value).toArray }).get? b = some o := fun b o e => Heap.get?_push_of_some _ (Heap.get?_push_of_some _ e)
  have st0 : ((s.heap.push { cls := .type "list_iterator", data := .fields #[.ref l, .int 0 0] }).push { cls := .type "list", data := .seq ([] : List Value).toArray }).IsListIter s.heap.objs.size l 0 ∧ ((s.heap.push { cls := .type "list_iterator", data := .fields #[.ref l, .int 0 0] }).push { cls := .type "list", data := .seq ([] : List Value).toArray }).IsList l items := ⟨⟨_, Heap.get?_push_of_some _ (Heap.get?_push_size _ rfl), rfl, rfl⟩, (hl.push _).push _⟩
  refine wpAny_pure ⟨plainId_quiet F.plain_min_loop _, codeAny_builtin F.entry_min_loop ?_⟩
  rw [Around.under_plainId F.plain_min_loop _]
  show wpAny _ A.in1 (seqItems? (.ref _) >>= _) _ _ _
  refine wpAny_bind (wpAny_seqItems hS rfl ?_)
  show wpAny _ A.in1 (tryCatch (pyNext (.ref s.heap.objs.size)) _ >>= _) _ _ _
  refine wpAny_bind (wpAny_tryCatch (W.item 0 _ _ _ hpos st0 fun v s' hP hst' hm => ?_))
  have hS' := hm.heap _ _ (by rw [eS]; simp) hS
  show wpAny _ A.in1 (updateSeq _ (fun _ => #[v, v]) >>= _) _ _ _
  refine wpAny_bind (wpAny_updateSeq hS' rfl ?_)
  rw [nm]
  have kept1 : ∀ b o, s.heap.get? b = some o → s'.heap.get? b = some o := fun b o e => hm.heap b o (fun z => by rw [hfr b (List.mem_cons_of_mem _ z)] at e; cases e) (kp0 b o e)
  refine wpAny_pure ⟨plainId_quiet F.plain_min_loop _, minLoop_h W _ hSf s.heap hfr (d0 :: dt) hlen hrd hok hdp hu dr _ 0 _ 0 v d0 _ rfl hpos (W.frame _ s' _ s'.toks hst' (Nat.le_refl _) fun b hbf o e => ?_) (fun b o e => ?_) hP rfl (Heap.get?_update_self _ hS' rfl) (by simpa [minD] using hmin) fun i v' s'' e1 e2 hm'' => ?_⟩
  · exact (Heap.get?_update_other _ _ (fun z => hSf (by rw [z]; exact hbf))).trans e
  · exact (Heap.get?_update_other _ _ (fun z => by rw [← z, hfr _ List.mem_cons_self] at e; cases e)).trans (kept1 b o e)
  · obtain ⟨h', g', d', tk', os'⟩ := s''
    have eg : g' = s.gens := hm''.gens.trans hm.gens
    have ed : d' = s.drawn := hm''.drawn.trans hm.drawn
    have eo : os' = s.os := hm''.os.trans hm.os
    subst eg
    subst ed
    subst eo
    refine h i v' h' tk' e1 e2 fun b o e => hm''.heap b o (fun z => by rw [hfr b z] at e; cases e) ((Heap.get?_update_other _ _ (fun z => by rw [← z, hfr _ List.mem_cons_self] at e; cases e)).trans (kept1 b o e))
end
section
variable {X : Cx} {e : Expr} {es : List Expr} {fs : List Fe} {p pos : Pos}
theorem call_minD (hc : X.calm = true) (hu : X.A.units + 64 < cLine) : CallR X (.builtin "min") (fun xs H Q => ∃ p vs F ds dr, xs = [.ref p] ∧ SqL X.K H p vs ∧ RepL X.K F H ds vs ∧ okL ds = true ∧ minD ds = some dr ∧ ∀ v, Rep X.K F H dr v → Q v H) := by
  intro pins s σ H xs us Q I r h
  obtain ⟨p, vs, F, ds, dr, rfl, hq, hrep, hok, hmin, q⟩ := h
  obtain ⟨u, rfl, rx⟩ := vals1 r
  cases rx
  obtain ⟨its, r', pl, hz⟩ := I.list hq
  obtain ⟨o1, o2⟩ := okL_ok hok
  have hlen : its.length = ds.length := by rw [hrep.length, r'.length]
  have both : ∀ (i : Nat) v d, its[i]? = some v → ds[i]? = some d → ∃ x, RelV x v ∧ Rep X.K F H d x := fun i v d e1 e2 => by
    obtain ⟨x, e3, e4⟩ := hrep.get e2
    obtain ⟨v', e5, e6⟩ := r'.get e3
    rw [e1] at e5
    cases e5
    exact ⟨x, e6, e4⟩
  refine call_min_h (items := its.toArray) (I.ok.hd hc) pl.isList ds (by simpa using hlen) (fun i v d e1 e2 => ?_) o1 o2 (by simp; omega) dr hmin fun i v h' tk e1 e2 kp => ?_
  · obtain ⟨x, e3, e4⟩ := both i v d (by simpa using e1) e2
    exact readsR_of (O := fun _ => False) I (.inl e4) e3
  · obtain ⟨x, e3, e4⟩ := both i v dr (by simpa using e1) e2
    exact ⟨x, H, I.kept (t' := tk) kp, e3, q x e4⟩
theorem q_minD (hc : X.calm = true) (hu : X.A.units + 64 < cLine) (hm : X.mg "min" = none) (ha : PAr X (e :: es) fs) (hg : Gl X "min" := by rfl) (he : starEach (e :: es) X.env = (false, eval e X.env) :: starEach es X.env := by rfl) (hpl : (backTo pos (starEach es X.env)).any (·.1) = false := by rfl) :
    PEv X (.Call (.Name "min" p) (e :: es) [] pos) (opN oMinD fs) := PE_imp (pe_callB (call_minD hc hu) hg hm (by decide +kernel) ha (he := he) (hpl := hpl)) (opN_imp (by
  intro O F H ts t vs Q d q e k
  unfold oMinD at e
  split at e
  · split at e
    next hz =>
      cases q with
      | cons q1 q2 =>
        cases q2
        obtain ⟨l0, ws, rfl, hl, hr⟩ := q1.lst
        exact ⟨l0, ws, F, _, t, rfl, .inl hl, hr, hz, e, fun v rv => k v F H (Ext.refl d) rv⟩
    next => cases e
  · cases e))
def rLtD (K : PySem.W.Frag) : R2 := fun x y H Q => ∃ (O F : Addr → Prop) (s t : T) (r : Bool), RepR K O F H s x ∧ RepR K O F H t y ∧ okT s = true ∧ okT t = true ∧ ltD s t = some r ∧ Q (.bl r) H
theorem op_ltD (hu : X.A.units + 64 < cLine) : OpR X (compareOp .Lt) (rLtD X.K) := by
  intro pins s σ H x y v u Q I rx ry ⟨O, F, d, t, b, h1, h2, o1, o2, o3, q⟩
  obtain ⟨as, ra⟩ := readsR_of I h1 rx
  obtain ⟨bs, rb⟩ := readsR_of I h2 ry
  obtain ⟨c1, l1⟩ := okT_ok o1
  obtain ⟨c2, l2⟩ := okT_ok o2
  exact lt_reads d t X.A s v u as bs b ra rb c1 c2 (by have := Nat.min_le_left d.depth t.depth; omega) o3 _ _ _ _ ⟨.bl b, H, I, rfl, q⟩
theorem op2_ltD : Op2 X.K oLtD (rLtD X.K) := by
    intro O F H x y t vx vy Q d rx ry e k
    unfold oLtD at e
    split at e
    next hz =>
      simp only [Option.map_eq_some_iff] at e
      obtain ⟨b, e1, rfl⟩ := e
      rw [Bool.and_eq_true] at hz
      exact ⟨O, F, x, y, b, rx, ry, hz.1, hz.2, e1, k _ F H (Ext.refl d) (by simp [Rep])⟩
    next => cases e
end
end D
end
section
set_option linter.all false
set_option Elab.async false
set_option maxRecDepth 100000
set_option autoImplicit false
namespace D
open PySem PySem.Spec PyProof.Rows L2
/-! ### a comprehension within another -/
def relN (scope1 sc0 : Scope) : List (Str × NameKind) := scope1.names.map fun (n, k) => if (k == .free && sc0.kind == .function && sc0.names.lookup n == some .cell) then (n, .cell) else (n, k)
def compB2 (scope scope1 sc0 : Scope) (N : List Str) (caps : List (Nat × Str)) : Bool :=
  decide (scope.kind = .function) && scope.names.all (fun y => (decide (y.2 ≠ .local) || decide (scope.names.lookup y.1 = some .local)) && decide (y.2 ≠ .cell) && (decide (y.2 ≠ .free) || decide ((relN scope1 sc0).lookup y.1 = some .cell) || decide ((relN scope1 sc0).lookup y.1 = some .free)))
    && caps.all (fun q => decide (N[q.1]? = some q.2) && decide (scope.names.lookup q.2 = some .free)) && decide ((caps.map (·.1)).Nodup)
theorem compOk2 {X0 : Cx} {scope scope1 sc0 : Scope} {own N1 : List Str} {caps : List (Nat × Str)} {cl : List (Str × Addr)} {C : Addr} {s₀ : Shared} {H₀ : Hp} {fp : List Addr} {pn : List (Addr × Obj)} (N : List Str) (hsc : X0.env.scope = sc0) (hN : N1 = N) (hc : X0.calm = true) (h : compB2 scope scope1 sc0 N caps = true) :
    CompOk (compCx X0 N1 scope1 cl C s₀ H₀ fp pn) scope own caps := by
  simp only [compB2, Bool.and_eq_true, List.all_eq_true, decide_eq_true_eq, Bool.or_eq_true] at h
  obtain ⟨⟨⟨h1, h2⟩, h3⟩, h4⟩ := h
  have hk : ∀ x, (compCx X0 N1 scope1 cl C s₀ H₀ fp pn).env.kindOf x = (relN scope1 sc0).lookup x := fun x => by
    have e : (compCx X0 N1 scope1 cl C s₀ H₀ fp pn).env.kindOf x = (relabel scope1 X0.env).names.lookup x := rfl
    rw [e]
    have : (relabel scope1 X0.env).names = relN scope1 sc0 := by
      subst hsc
      rfl
    rw [this]
  refine ⟨h1, fun y hy hl => ?_, fun y hy => (h2 y hy).1.2, fun y hy hf => ?_, fun q hq => by show N1[q.1]? = _ ∧ _; rw [hN]; exact h3 q hq, h4, hc⟩
  · rcases (h2 y hy).1.1 with z | z
    · exact absurd hl z
    · exact z
  · rw [hk]
    rcases (h2 y hy).2 with (z | z) | z
    · exact absurd hf z
    · exact .inl z
    · exact .inr z
end D
end
section
set_option linter.all false
namespace D
open PySem
/-! trees of ints and of texts: compared, looked up -/
theorem okL_ints (ns : List Int) : PyData.canLayAll0 (ns.map .int) = true ∧ PyData.depthAll (ns.map .int) ≤ 1 := by
  induction ns with
  | nil => simp [PyData.canLayAll0, PyData.depthAll]
  | cons n ns ih => simp [PyData.canLayAll0, PyData.canLay0, PyData.depthAll, PyData.depth, ih]
theorem eqvAll_ints : ∀ (ns ms : List Int), PyData.eqvAll (ns.map .int) (ms.map .int) = decide (ns = ms)
  | [], [] => by simp [PyData.eqvAll]
  | [], _ :: _ => by simp [PyData.eqvAll]
  | _ :: _, [] => by simp [PyData.eqvAll]
  | n :: ns, m :: ms => by simp [PyData.eqvAll, PyData.eqv, eqvAll_ints ns ms, Bool.beq_eq_decide_eq]
theorem eqv_ints (ns ms : List Int) : PyData.eqv (.tuple (ns.map .int)) (.tuple (ms.map .int)) = decide (ns = ms) := by rw [PyData.eqv, eqvAll_ints]
theorem hasT_int (n : Int) : ∀ ns : List Int, hasT (.int n) (ns.map .int) = decide (n ∈ ns)
  | [] => by simp [hasT]
  | m :: ns => by
    have ih := hasT_int n ns
    unfold hasT at ih ⊢
    rw [List.map_cons, List.any_cons, ih]
    simp [PyData.eqv, Bool.beq_eq_decide_eq, eq_comm]
theorem okT_int (n : Int) : okT (.int n) = true := by simp [okT, PyData.canLay0, PyData.depth]
theorem okLs_ints (ns : List Int) : okL (ns.map .int) = true := by
  have := okL_ints ns
  simp [okL, this.1]
  omega
theorem oIn_int (neg : Bool) (n : Int) (ns : List Int) : oIn neg (.int n) (.tuple (ns.map .int)) = some (.bool (if neg then !decide (n ∈ ns) else decide (n ∈ ns))) := by
  simp only [oIn, okT_int, okLs_ints, hasT_int, Bool.and_self, if_true]
end D
end
section
set_option linter.all false
namespace Ho
open D
def b_zones_of : Fs :=
    (rtn (opN oTuple [(opN oSortedSetL [(comp 1 [] (itSeq (op2 oIx (nm 0) (cst (.int 1)))) (gNm 0) (tstB (op1 oNotN (op2 oIx (nm 0) (cst (.int 2))))) (op2 oIx (nm 0) (cst (.int 2))))])]))
def d_zones_of : List T → Option T := runF b_zones_of 1
def b_beyond : Fs :=
    (seq (iff (tstB (op2 oEq (op2 oIx (nm 0) (cst (.int 0))) (nm 1))) (rtn (op2 oIx (nm 0) (cst (.int 1)))) skip)
    (seq (iff (tstB (op2 oEq (op2 oIx (nm 0) (cst (.int 1))) (nm 1))) (rtn (op2 oIx (nm 0) (cst (.int 0)))) skip)
    (rtn (cst .none))))
def d_beyond : List T → Option T := runF b_beyond 2
def b_unseen : Fs :=
    (seq (asg 2 (comp 1 [1] (itSeq (op2 oIx (nm 0) (cst (.int 1)))) (gNm 0) (orT (tstB (op1 oIsN (op2 oIx (nm 0) (cst (.int 2))))) (tstB (op2 (oIn false) (op2 oIx (nm 0) (cst (.int 2))) (nm 1)))) (nmV 0)))
    (seq (dNew 3 (cst (.int 0)) (cst (.bool true)))
    (seq (asgN 4 (mkLst [(cst (.int 0))]))
    (seq (whl (tstL (nm 4)) (seq (pop 5 4)
    (for_ (itSeq (nmV 2)) (gNm 6)
    (seq (asg 7 (opN d_beyond [(nmV 6), (nmV 5)]))
    (iff (andT (tstB (op1 oNotN (nm 7))) (tstB (dIn true (nm 7) 3))) (seq (dPut 3 (nm 7) (cst (.bool true)))
    (app 4 (nmV 7))) skip)))) 1000)
    (rtn (opN oTuple [(dSorted 3)]))))))
def d_unseen : List T → Option T := runF b_unseen 8
def b_ways_on (rec : List T → Option T) : Fs :=
    (seq (iff (tstB (op2 oEq (op2 oIx (nm 2) (op1 oNeg (cst (.int 1)))) (nm 1))) (rtn (mkLst [(mkTup [])])) skip)
    (seq (asgN 3 (mkLst []))
    (seq (for_ (itEnum (itTup (op2 oIx (nm 0) (cst (.int 1))))) (gTu [(gNm 4), (gNm 5)])
    (seq (asg 6 (opN d_beyond [(nmV 5), (op2 oIx (nm 2) (op1 oNeg (cst (.int 1))))]))
    (iff (andT (tstB (op1 oNotN (nm 6))) (tstB (op2 (oIn true) (nm 6) (nm 2)))) (ext 3 (comp 1 [4] (itSeq (opN rec [(nmV 0), (nmV 1), (op2 oAdd (nm 2) (mkTup [(nmV 6)]))])) (gNm 0) (cstT true) (op2 oAdd (mkTup [(nmV 1)]) (nm 0)))) skip)))
    (rtn (nm 3)))))
def d_ways_on : Nat → List T → Option T
  | 0 => fun _ => none
  | n + 1 => runF (b_ways_on (d_ways_on n)) 7
def b_ways : Fs :=
    (rtn (opN oTuple [(opN (d_ways_on 20) [(nmV 0), (nmV 1), (mkTup [(cst (.int 0))])])]))
def d_ways : List T → Option T := runF b_ways 2
def b_l_cell_at : Fs :=
    (seq (iff (tstB (op2 oLt (nm 1) (opN oLen [(nm 0)]))) (rtn (op2 oIx (nm 0) (nm 1))) skip)
    (rtn (cst (.int 0))))
def d_l_cell_at : List T → Option T := runF b_l_cell_at 2
def b_l_mixed : Fs :=
    (seq (asg 2 (op2 oMod (op2 oMul (op2 oAdd (op2 oAdd (opN d_l_cell_at [(nmV 0), (nmV 1)]) (op2 oMul (cst (.int 7919)) (nm 1))) (cst (.int 1))) (cst (.int 48271))) (cst (.int 2147483647))))
    (rtn (op2 oMod (op2 oAdd (op2 oAdd (op2 oMul (nm 2) (nm 2)) (op2 oMul (cst (.int 7)) (nm 2))) (nm 1)) (cst (.int 2147483629)))))
def d_l_mixed : List T → Option T := runF b_l_mixed 3
def b_l_drawn : Fs :=
    (seq (asg 2 (op2 oMod (op2 oMul (op2 oAdd (op2 oAdd (nm 0) (op2 oMul (cst (.int 104729)) (nm 1))) (cst (.int 17))) (cst (.int 69621))) (cst (.int 2147483647))))
    (rtn (op2 oMod (op2 oAdd (op2 oAdd (op2 oMul (nm 2) (nm 2)) (op2 oMul (cst (.int 3)) (nm 2))) (nm 1)) (cst (.int 2147483629)))))
def d_l_drawn : List T → Option T := runF b_l_drawn 3
def b_l_house : Fs :=
    (seq (asg 1 (op2 oAdd (cst (.int 1)) (op2 oMod (nm 0) (cst (.int 7)))))
    (seq (asg 2 (mkTup []))
    (seq (for_ (itRng1 (op2 oMod (op2 oDiv (nm 0) (cst (.int 8))) (cst (.int 11)))) (gNm 3)
    (seq (asg 4 (op2 oDiv (opN d_l_drawn [(nmV 0), (op2 oAdd (cst (.int 50)) (nm 3))]) (cst (.int 4))))
    (seq (asg 5 (op2 oMod (nm 4) (op2 oAdd (nm 1) (cst (.int 1)))))
    (seq (asg 6 (op2 oMod (op2 oAdd (op2 oAdd (nm 5) (cst (.int 1))) (op2 oMod (op2 oDiv (nm 4) (cst (.int 8))) (nm 1))) (op2 oAdd (nm 1) (cst (.int 1)))))
    (seq (asg 7 (op2 oIx (mkTup [(cst .none), (cst .none), (cst (.str "a")), (cst (.str "b")), (cst (.str "back")), (cst (.str "hall")), (cst (.str "win"))]) (op2 oMod (op2 oDiv (nm 4) (cst (.int 64))) (cst (.int 7)))))
    (asg 2 (op2 oAdd (nm 2) (mkTup [(mkTup [(opN oMin [(nm 5), (nm 6)]), (opN oMax [(nm 5), (nm 6)]), (nmV 7)])]))))))))
    (rtn (mkTup [(nmV 1), (nmV 2)])))))
def d_l_house : List T → Option T := runF b_l_house 8
end Ho
end
section
set_option linter.all false
namespace Hg
/-! houses, apart from Python: openings as pairs of rooms -/
def adj (e : Int × Int) (x : Int) : Option Int := if e.1 = x then some e.2 else if e.2 = x then some e.1 else none
def Adj (E : List (Int × Int)) (x y : Int) : Prop := ∃ e ∈ E, adj e x = some y
inductive Reach (E : List (Int × Int)) : Int → Prop
  | zero : Reach E 0
  | step {x y : Int} : Reach E x → Adj E x y → Reach E y
/-- all ends lie in 0 .. R -/
def Within (R : Int) (E : List (Int × Int)) : Prop := ∀ e ∈ E, 0 ≤ e.1 ∧ e.1 ≤ R ∧ 0 ≤ e.2 ∧ e.2 ≤ R
theorem adj_within {R : Int} {E : List (Int × Int)} (h : Within R E) {x y : Int} (a : Adj E x y) : 0 ≤ y ∧ y ≤ R := by
  obtain ⟨e, he, ha⟩ := a
  obtain ⟨h1, h2, h3, h4⟩ := h e he
  unfold adj at ha
  split at ha
  · cases ha; exact ⟨h3, h4⟩
  · split at ha
    · cases ha; exact ⟨h1, h2⟩
    · cases ha
/-- a list of unlike numbers of 0 .. R is no longer than R + 1 -/
theorem nodup_len : ∀ (n : Nat) (l : List Int), l.Nodup → (∀ x ∈ l, 0 ≤ x ∧ x < n) → l.length ≤ n
  | 0, l, _, hb => by
    cases l with
    | nil => simp
    | cons x r => have := hb x (by simp); omega
  | n + 1, l, nd, hb => by
    have h1 := nodup_len n (l.filter fun x => decide (x ≠ (n : Int))) (nd.filter _) (fun x hx => by
      have := List.mem_filter.mp hx
      have hx' := hb x this.1
      have : x ≠ (n : Int) := by simpa using this.2
      omega)
    have h2 : l.length ≤ (l.filter fun x => decide (x ≠ (n : Int))).length + 1 := by
      clear h1 hb
      induction l with
      | nil => simp
      | cons y r ih =>
        have nd' := List.nodup_cons.mp nd
        by_cases e : y = (n : Int)
        · subst e
          have : r.filter (fun x => decide (x ≠ (n : Int))) = r := List.filter_eq_self.mpr fun x hx => by
            have : x ≠ (n : Int) := fun z => nd'.1 (z ▸ hx)
            simpa using this
          rw [List.filter_cons_of_neg (by simp), this]
          simp
        · rw [List.filter_cons_of_pos (by simpa using e)]
          have := ih nd'.2
          simp only [List.length_cons]
          omega
    omega

/-! ### the search -/
def inner (h : Int) : List (Int × Int) → List Int → List Int → List Int × List Int
  | [], r, w => (r, w)
  | e :: es, r, w => match adj e h with
    | some t => if t ∈ r then inner h es r w else inner h es (r ++ [t]) (w ++ [t])
    | none => inner h es r w
def bfs (E : List (Int × Int)) : Nat → List Int → List Int → Option (List Int)
  | 0, _, _ => none
  | n + 1, r, w => match w.getLast? with
    | none => some r
    | some h => bfs E n (inner h E r w.dropLast).1 (inner h E r w.dropLast).2
structure Mid (R : Int) (E : List (Int × Int)) (r w : List Int) : Prop where
  nd : r.Nodup
  z : (0 : Int) ∈ r
  wr : ∀ x ∈ w, x ∈ r
  bd : ∀ x ∈ r, 0 ≤ x ∧ x ≤ R
  re : ∀ x ∈ r, Reach E x
  cl : ∀ x ∈ r, x ∉ w → ∀ y, Adj E x y → y ∈ r
/-! ### the ways -/
def exts (rec : List Int → Option (List (List Nat))) (pl : List Int) (h : Int) : Nat → List (Int × Int) → Option (List (List Nat))
  | _, [] => some []
  | k, e :: es => match adj e h with
    | some t => if t ∈ pl then exts rec pl h (k + 1) es else (rec (pl ++ [t])).bind fun ws => (exts rec pl h (k + 1) es).map fun vs => ws.map (fun w => k :: w) ++ vs
    | none => exts rec pl h (k + 1) es
def waysP (E : List (Int × Int)) (room : Int) : Nat → List Int → Option (List (List Nat))
  | 0, _ => none
  | n + 1, pl => match pl.getLast? with
    | none => none
    | some h => if h = room then some [[]] else exts (waysP E room n) pl h 0 E
theorem exts_tot {rec : List Int → Option (List (List Nat))} {pl : List Int} {h : Int} {B : Nat} (E₀ : List (Int × Int)) (hr : ∀ t, Adj E₀ h t → t ∉ pl → ∃ ws, rec (pl ++ [t]) = some ws ∧ ws.length ≤ B) :
    ∀ (k : Nat) (E : List (Int × Int)), (∀ e ∈ E, e ∈ E₀) → ∃ ws, exts rec pl h k E = some ws ∧ ws.length ≤ E.length * B
  | k, [], _ => ⟨[], rfl, by simp⟩
  | k, e :: es, hs => by
    obtain ⟨vs, h1, h2⟩ := exts_tot E₀ hr (k + 1) es fun e he => hs e (List.mem_cons_of_mem _ he)
    have h3 : es.length * B ≤ (e :: es).length * B := Nat.mul_le_mul_right _ (by simp)
    unfold exts
    split
    next t ht =>
      split
      next => exact ⟨vs, h1, by omega⟩
      next hm =>
        obtain ⟨ws, h4, h5⟩ := hr t ⟨e, hs e List.mem_cons_self, ht⟩ hm
        refine ⟨_, by rw [h4, h1]; rfl, ?_⟩
        simp only [List.length_append, List.length_map, List.length_cons, Nat.succ_mul]
        omega
    next => exact ⟨vs, h1, by omega⟩
theorem ways_tot {R : Int} {E : List (Int × Int)} (hE : Within R E) (hR : R ≤ 7) (hl : E.length ≤ 10) (room : Int) :
    ∀ (n : Nat) (pl : List Int), pl ≠ [] → pl.Nodup → (∀ x ∈ pl, 0 ≤ x ∧ x ≤ R) → 9 ≤ n + pl.length → ∃ ws, waysP E room n pl = some ws ∧ ws.length ≤ 10 ^ (8 - pl.length)
  | 0, pl, hne, nd, hb, hn => by
    have := nodup_len 8 pl nd fun y hy => by have := hb y hy; omega
    omega
  | n + 1, pl, hne, nd, hb, hn => by
    unfold waysP
    rw [List.getLast?_eq_getLast hne]
    simp only
    split
    next => exact ⟨_, rfl, by simpa using Nat.one_le_pow _ 10 (by decide)⟩
    next =>
      have l8 := nodup_len 8 pl nd fun y hy => by have := hb y hy; omega
      by_cases full : pl.length = 8
      · -- no room is left
        have none_new : ∀ t, Adj E (pl.getLast hne) t → t ∉ pl → False := fun t a hm => by
          have hw := adj_within hE a
          have nd' : (pl ++ [t]).Nodup := by
            rw [List.nodup_append]
            refine ⟨nd, by simp, fun x hx y hy => ?_⟩
            have : y = t := by simpa using hy
            subst this
            exact fun z => hm (z ▸ hx)
          have := nodup_len 8 (pl ++ [t]) nd' fun y hy => by
            rcases List.mem_append.mp hy with hy | hy
            · have := hb y hy; omega
            · have : y = t := by simpa using hy
              subst this
              omega
          simp at this
          omega
        obtain ⟨ws, h1, h2⟩ := exts_tot (B := 0) (pl := pl) (h := pl.getLast hne) (rec := waysP E room n) E (fun t a hm => (none_new t a hm).elim) 0 E fun _ h => h
        exact ⟨ws, h1, by have : ws.length = 0 := by omega
                          rw [this]; exact Nat.zero_le _⟩
      · obtain ⟨ws, h1, h2⟩ := exts_tot (B := 10 ^ (8 - (pl.length + 1))) (pl := pl) (h := pl.getLast hne) (rec := waysP E room n) E (fun t a hm => by
          have hw := adj_within hE a
          have := ways_tot hE hR hl room n (pl ++ [t]) (by simp) (by
            rw [List.nodup_append]
            refine ⟨nd, by simp, fun x hx y hy => ?_⟩
            have : y = t := by simpa using hy
            subst this
            exact fun z => hm (z ▸ hx)) (fun y hy => by
            rcases List.mem_append.mp hy with hy | hy
            · exact hb y hy
            · have : y = t := by simpa using hy
              subst this
              exact hw) (by simp; omega)
          simpa using this) 0 E fun _ h => h
        refine ⟨ws, h1, ?_⟩
        have e : 8 - pl.length = (8 - (pl.length + 1)) + 1 := by omega
        rw [e, Nat.pow_succ]
        have := Nat.mul_le_mul_right (10 ^ (8 - (pl.length + 1))) hl
        omega
inductive Walk (E : List (Int × Int)) : Int → List Int → Int → Prop
  | nil (x : Int) : Walk E x [] x
  | cons {x y z : Int} {p : List Int} : Adj E x y → Walk E y p z → Walk E x (y :: p) z
theorem exts_some {rec : List Int → Option (List (List Nat))} {pl : List Int} {h : Int} : ∀ {k : Nat} {E : List (Int × Int)} {ws : List (List Nat)}, exts rec pl h k E = some ws → ∀ t, Adj E h t → t ∉ pl → ∃ vs, rec (pl ++ [t]) = some vs ∧ (vs ≠ [] → ws ≠ [])
  | k, [], ws, e, t, ⟨e', he', _⟩, _ => by simp at he'
  | k, e :: es, ws, h1, t, ⟨e', he', ha⟩, hm => by
    unfold exts at h1
    split at h1
    next t' ht' =>
      split at h1
      next hm' =>
        rcases List.mem_cons.mp he' with rfl | he'
        · rw [ht'] at ha
          cases ha
          exact absurd hm' hm
        · exact exts_some h1 t ⟨e', he', ha⟩ hm
      next hm' =>
        simp only [Option.bind_eq_some_iff, Option.map_eq_some_iff] at h1
        obtain ⟨us, h2, vs, h3, rfl⟩ := h1
        rcases List.mem_cons.mp he' with rfl | he'
        · rw [ht'] at ha
          cases ha
          exact ⟨us, h2, fun q z => q (by have := (List.append_eq_nil_iff.mp z).1; simpa using this)⟩
        · obtain ⟨xs, q1, q2⟩ := exts_some h3 t ⟨e', he', ha⟩ hm
          exact ⟨xs, q1, fun q z => q2 q (List.append_eq_nil_iff.mp z).2⟩
    next hn =>
      rcases List.mem_cons.mp he' with rfl | he'
      · rw [hn] at ha
        cases ha
      · exact exts_some h1 t ⟨e', he', ha⟩ hm
theorem exts_ne {rec : List Int → Option (List (List Nat))} {pl : List Int} {h : Int} : ∀ {k : Nat} {E : List (Int × Int)} {ws : List (List Nat)}, exts rec pl h k E = some ws → ws ≠ [] → ∃ t vs, Adj E h t ∧ t ∉ pl ∧ rec (pl ++ [t]) = some vs ∧ vs ≠ []
  | k, [], ws, e, hn => by
    cases e
    exact absurd rfl hn
  | k, e :: es, ws, h1, hne => by
    have up : ∀ {y : Int}, Adj es h y → Adj (e :: es) h y := fun ⟨e', h1, h2⟩ => ⟨e', List.mem_cons_of_mem _ h1, h2⟩
    unfold exts at h1
    split at h1
    next t ht =>
      split at h1
      next =>
        obtain ⟨t', vs, a, b, c, d⟩ := exts_ne h1 hne
        exact ⟨t', vs, up a, b, c, d⟩
      next hm =>
        simp only [Option.bind_eq_some_iff, Option.map_eq_some_iff] at h1
        obtain ⟨us, h2, vs, h3, rfl⟩ := h1
        by_cases hu : us = []
        · subst hu
          obtain ⟨t', vs', a, b, c, d⟩ := exts_ne h3 (by simpa using hne)
          exact ⟨t', vs', up a, b, c, d⟩
        · exact ⟨t, us, ⟨e, List.mem_cons_self, ht⟩, hm, h2, hu⟩
    next =>
      obtain ⟨t', vs, a, b, c, d⟩ := exts_ne h1 hne
      exact ⟨t', vs, up a, b, c, d⟩
theorem ways_of_walk {E : List (Int × Int)} {room : Int} : ∀ {p : List Int} {n : Nat} {pl : List Int} {cur : Int} {ws : List (List Nat)}, Walk E cur p room → (cur :: p).Nodup → (∀ y ∈ p, y ∉ pl) → pl.getLast? = some cur → waysP E room n pl = some ws → ws ≠ []
  | p, 0, pl, cur, ws, _, _, _, _, h => by cases h
  | [], n + 1, pl, cur, ws, hw, _, _, hl, h => by
    cases hw
    unfold waysP at h
    rw [hl] at h
    simp only [if_true] at h
    cases h
    simp
  | y :: p, n + 1, pl, cur, ws, hw, nd, hp, hl, h => by
    cases hw with
    | cons a w =>
      unfold waysP at h
      rw [hl] at h
      simp only at h
      split at h
      next => cases h; simp
      next =>
        obtain ⟨vs, h1, h2⟩ := exts_some h y a (hp y (by simp))
        have nd' := (List.nodup_cons.mp nd).2
        refine h2 (ways_of_walk w nd' (fun z hz hm => ?_) (by simp) h1)
        rcases List.mem_append.mp hm with hm | hm
        · exact hp z (List.mem_cons_of_mem _ hz) hm
        · have : z = y := by simpa using hm
          subst this
          exact (List.nodup_cons.mp nd').1 hz
theorem walk_of_ways {E : List (Int × Int)} {room : Int} : ∀ {n : Nat} {pl : List Int} {cur : Int} {ws : List (List Nat)}, pl.getLast? = some cur → waysP E room n pl = some ws → ws ≠ [] → ∃ p, Walk E cur p room
  | 0, pl, cur, ws, _, h, _ => by cases h
  | n + 1, pl, cur, ws, hl, h, hne => by
    unfold waysP at h
    rw [hl] at h
    simp only at h
    split at h
    next e =>
      subst e
      exact ⟨[], .nil _⟩
    next =>
      obtain ⟨t, vs, a, b, c, d⟩ := exts_ne h hne
      obtain ⟨p, w⟩ := walk_of_ways (pl := pl ++ [t]) (cur := t) (by simp) c d
      exact ⟨t :: p, .cons a w⟩
theorem walk_snoc {E : List (Int × Int)} {x y z : Int} {p : List Int} (w : Walk E x p y) (a : Adj E y z) : Walk E x (p ++ [z]) z := by
  induction w with
  | nil x => exact .cons a (.nil z)
  | cons b _ ih => exact .cons b (ih a)
theorem walk_reach {E : List (Int × Int)} {x y : Int} {p : List Int} (w : Walk E x p y) (r : Reach E x) : Reach E y := by
  induction w with
  | nil x => exact r
  | cons a _ ih => exact ih (.step r a)
/-- a walk is cut where it comes to y first -/
theorem walk_cut {E : List (Int × Int)} {x z y : Int} {p : List Int} (w : Walk E x p z) (nd : (x :: p).Nodup) (hy : y ∈ x :: p) : ∃ q, Walk E x q y ∧ (x :: q).Nodup := by
  induction w with
  | nil x =>
    have : y = x := by simpa using hy
    subst this
    exact ⟨[], .nil _, by simp⟩
  | @cons x u z p a w ih =>
    by_cases e : y = x
    · subst e
      exact ⟨[], .nil _, by simp⟩
    · have nd' := List.nodup_cons.mp nd
      -- all that is walked lies in u :: p
      have sub : ∀ {q : List Int}, Walk E u q y → True := fun _ => trivial
      obtain ⟨q, w', ndq, hs⟩ : ∃ q, Walk E u q y ∧ (u :: q).Nodup ∧ ∀ t ∈ u :: q, t ∈ u :: p := by
        have hy' : y ∈ u :: p := by
          rcases List.mem_cons.mp hy with h | h
          · exact absurd h e
          · exact h
        clear ih sub a nd hy e
        have nd2 := nd'.2
        clear nd'
        induction w with
        | nil u =>
          have : y = u := by simpa using hy'
          subst this
          exact ⟨[], .nil _, by simp, by simp⟩
        | @cons u v z p b w ih =>
          by_cases e : y = u
          · subst e
            exact ⟨[], .nil _, by simp, by simp⟩
          · have n3 := List.nodup_cons.mp nd2
            obtain ⟨q, w', ndq, hs⟩ := ih (by
              rcases List.mem_cons.mp hy' with h | h
              · exact absurd h e
              · exact h) n3.2
            refine ⟨v :: q, .cons b w', List.nodup_cons.mpr ⟨fun h => n3.1 (hs u h), ndq⟩, fun t ht => ?_⟩
            rcases List.mem_cons.mp ht with rfl | ht
            · simp
            · exact List.mem_cons_of_mem _ (hs t ht)
      exact ⟨u :: q, .cons a w', List.nodup_cons.mpr ⟨fun h => nd'.1 (hs x h), ndq⟩⟩
theorem reach_walk {E : List (Int × Int)} {x : Int} (r : Reach E x) : ∃ p, Walk E 0 p x ∧ ((0 : Int) :: p).Nodup := by
  induction r with
  | zero => exact ⟨[], .nil _, by simp⟩
  | @step x y _ a ih =>
    obtain ⟨p, w, nd⟩ := ih
    by_cases h : y ∈ (0 : Int) :: p
    · exact walk_cut w nd h
    · refine ⟨p ++ [y], walk_snoc w a, ?_⟩
      rw [← List.cons_append, List.nodup_append]
      refine ⟨nd, by simp, fun s hs t ht => ?_⟩
      have : t = y := by simpa using ht
      subst this
      exact fun e => h (e ▸ hs)
/-- a room has a way just if it is reached -/
theorem ways_iff {E : List (Int × Int)} {room : Int} {n : Nat} {ws : List (List Nat)} (h : waysP E room n [0] = some ws) : ws ≠ [] ↔ Reach E room := by
  constructor
  · intro hne
    obtain ⟨p, w⟩ := walk_of_ways (cur := 0) (by simp) h hne
    exact walk_reach w .zero
  · intro r
    obtain ⟨p, w, nd⟩ := reach_walk r
    refine ways_of_walk w nd (fun y hy hm => ?_) (by simp) h
    have : y = 0 := by simpa using hm
    subst this
    exact (List.nodup_cons.mp nd).1 hy
end Hg
end
section
set_option linter.all false
namespace Hg
/-! ways, told by what they go through -/
/-- from cur by the openings of w one comes through the rooms p -/
def Fol (E : List (Int × Int)) : Int → List Nat → List Int → Prop
  | _, [], p => p = []
  | cur, k :: w, p => ∃ e t q, E[k]? = some e ∧ adj e cur = some t ∧ p = t :: q ∧ Fol E t w q
theorem exts_mem {rec : List Int → Option (List (List Nat))} {pl : List Int} {h : Int} : ∀ {E : List (Int × Int)} {k : Nat} {ws : List (List Nat)}, exts rec pl h k E = some ws → ∀ w, w ∈ ws ↔ ∃ j e t us w', E[j]? = some e ∧ adj e h = some t ∧ t ∉ pl ∧ rec (pl ++ [t]) = some us ∧ w' ∈ us ∧ w = (k + j) :: w'
  | [], k, ws, e, w => by
    cases e
    simp
  | e :: es, k, ws, h1, w => by
    have sh : ∀ {vs : List (List Nat)}, exts rec pl h (k + 1) es = some vs → (w ∈ vs ↔ ∃ j e' t us w', (e :: es)[j + 1]? = some e' ∧ adj e' h = some t ∧ t ∉ pl ∧ rec (pl ++ [t]) = some us ∧ w' ∈ us ∧ w = (k + (j + 1)) :: w') := fun hv => by
      rw [exts_mem hv w]
      constructor
      · rintro ⟨j, e', t, us, w', a1, a2, a3, a4, a5, a6⟩
        exact ⟨j, e', t, us, w', by simpa using a1, a2, a3, a4, a5, by rw [a6]; congr 1; omega⟩
      · rintro ⟨j, e', t, us, w', a1, a2, a3, a4, a5, a6⟩
        exact ⟨j, e', t, us, w', by simpa using a1, a2, a3, a4, a5, by rw [a6]; congr 1; omega⟩
    unfold exts at h1
    split at h1
    next t ht =>
      split at h1
      next hm =>
        rw [sh h1]
        constructor
        · rintro ⟨j, r⟩
          exact ⟨j + 1, r⟩
        · rintro ⟨j, e', t', us, w', a1, a2, a3, r⟩
          cases j with
          | zero =>
            cases a1
            rw [ht] at a2
            cases a2
            exact absurd hm a3
          | succ j => exact ⟨j, e', t', us, w', a1, a2, a3, r⟩
      next hm =>
        simp only [Option.bind_eq_some_iff, Option.map_eq_some_iff] at h1
        obtain ⟨us, h2, vs, h3, rfl⟩ := h1
        rw [List.mem_append, sh h3, List.mem_map]
        constructor
        · rintro (⟨w', q1, q2⟩ | ⟨j, r⟩)
          · exact ⟨0, e, t, us, w', rfl, ht, hm, h2, q1, by rw [← q2]; rfl⟩
          · exact ⟨j + 1, r⟩
        · rintro ⟨j, e', t', us', w', a1, a2, a3, a4, a5, a6⟩
          cases j with
          | zero =>
            cases a1
            rw [ht] at a2
            cases a2
            rw [h2] at a4
            cases a4
            exact .inl ⟨w', a5, a6.symm⟩
          | succ j => exact .inr ⟨j, e', t', us', w', a1, a2, a3, a4, a5, a6⟩
    next hn =>
      rw [sh h1]
      constructor
      · rintro ⟨j, r⟩
        exact ⟨j + 1, r⟩
      · rintro ⟨j, e', t', us, w', a1, a2, a3, r⟩
        cases j with
        | zero =>
          cases a1
          rw [hn] at a2
          cases a2
        | succ j => exact ⟨j, e', t', us, w', a1, a2, a3, r⟩
/-- all searches below have enough fuel -/
theorem exts_all {rec : List Int → Option (List (List Nat))} {pl : List Int} {h : Int} {E : List (Int × Int)} {k : Nat} {ws : List (List Nat)} (e : exts rec pl h k E = some ws) {j : Nat} {e' : Int × Int} {t : Int} (h1 : E[j]? = some e') (h2 : adj e' h = some t) (h3 : t ∉ pl) : ∃ vs, rec (pl ++ [t]) = some vs := by
  obtain ⟨vs, hv, _⟩ := exts_some e t ⟨e', List.mem_of_getElem? h1, h2⟩ h3
  exact ⟨vs, hv⟩
theorem ways_mem {E : List (Int × Int)} {room : Int} : ∀ {n : Nat} {pl : List Int} {cur : Int} {ws : List (List Nat)}, pl.getLast? = some cur → waysP E room n pl = some ws → ∀ w, w ∈ ws ↔ ∃ p, Fol E cur w p ∧ p.Nodup ∧ (∀ y ∈ p, y ∉ pl) ∧ (cur :: p).getLast? = some room
  | 0, pl, cur, ws, _, h, _ => by cases h
  | n + 1, pl, cur, ws, hl, h, w => by
    have hcur : cur ∈ pl := List.mem_of_getLast? hl
    unfold waysP at h
    rw [hl] at h
    simp only at h
    split at h
    next e =>
      subst e
      cases h
      constructor
      · intro hw
        have : w = [] := by simpa using hw
        subst this
        exact ⟨[], rfl, by simp, by simp, rfl⟩
      · rintro ⟨p, h1, h2, h3, h4⟩
        cases w with
        | nil => simp
        | cons k w =>
          obtain ⟨e', t, q, _, _, rfl, _⟩ := h1
          have hm : cur ∈ t :: q := by
            rw [List.getLast?_cons_cons] at h4
            exact List.mem_of_getLast? h4
          exact absurd hcur (h3 cur hm)
    next hne =>
      rw [exts_mem h w]
      constructor
      · rintro ⟨j, e', t, us, w', a1, a2, a3, a4, a5, a6⟩
        obtain ⟨p, p1, p2, p3, p4⟩ := (ways_mem (pl := pl ++ [t]) (cur := t) (by simp) a4 w').mp a5
        refine ⟨t :: p, ?_, ?_, ?_, by rw [List.getLast?_cons_cons]; exact p4⟩
        · rw [a6]
          exact ⟨e', t, p, by simpa using a1, a2, rfl, p1⟩
        · exact List.nodup_cons.mpr ⟨fun z => p3 t z (by simp), p2⟩
        · intro y hy
          rcases List.mem_cons.mp hy with rfl | hy
          · exact a3
          · exact fun z => p3 y hy (by simp [z])
      · rintro ⟨p, h1, h2, h3, h4⟩
        cases w with
        | nil =>
          have : p = [] := h1
          subst this
          simp at h4
          exact absurd h4 hne
        | cons k w =>
          obtain ⟨e', t, q, b1, b2, rfl, b3⟩ := h1
          have ht : t ∉ pl := h3 t (by simp)
          obtain ⟨us, hu⟩ := exts_all h b1 b2 ht
          have nd := List.nodup_cons.mp h2
          refine ⟨k, e', t, us, w, b1, b2, ht, hu, ?_, by simp⟩
          refine (ways_mem (pl := pl ++ [t]) (cur := t) (by simp) hu w).mpr ⟨q, b3, nd.2, fun y hy z => ?_, by rw [List.getLast?_cons_cons] at h4; exact h4⟩
          rcases List.mem_append.mp z with z | z
          · exact h3 y (by simp [hy]) z
          · have : y = t := by simpa using z
            subst this
            exact nd.1 hy
theorem ways_char {E : List (Int × Int)} {room : Int} {n : Nat} {ws : List (List Nat)} (h : waysP E room n [0] = some ws) (w : List Nat) : w ∈ ws ↔ ∃ p, Fol E 0 w p ∧ ((0 : Int) :: p).Nodup ∧ ((0 : Int) :: p).getLast? = some room := by
  rw [ways_mem (cur := 0) rfl h w]
  constructor
  · rintro ⟨p, h1, h2, h3, h4⟩
    exact ⟨p, h1, List.nodup_cons.mpr ⟨fun z => h3 0 z (by simp), h2⟩, h4⟩
  · rintro ⟨p, h1, h2, h4⟩
    have nd := List.nodup_cons.mp h2
    exact ⟨p, h1, nd.2, fun y hy z => nd.1 (by have : y = 0 := by simpa using z
                                               exact this ▸ hy), h4⟩
end Hg
end
section
set_option linter.all false
namespace Hg
/-! ### the ways stand in order, and there are few -/
theorem exts_pw {rec : List Int → Option (List (List Nat))} (hr : ∀ q us, rec q = some us → us.Pairwise (· < ·)) {pl : List Int} {h : Int} : ∀ {E : List (Int × Int)} {k : Nat} {ws : List (List Nat)}, exts rec pl h k E = some ws → ws.Pairwise (· < ·) ∧ ∀ w ∈ ws, ∃ j w', k ≤ j ∧ w = j :: w'
  | [], k, ws, e => by
    cases e
    exact ⟨.nil, by simp⟩
  | e :: es, k, ws, h1 => by
    have up : ∀ {vs : List (List Nat)}, exts rec pl h (k + 1) es = some vs → vs.Pairwise (· < ·) ∧ ∀ w ∈ vs, ∃ j w', k ≤ j ∧ w = j :: w' := fun hv => by
      obtain ⟨a, b⟩ := exts_pw hr hv
      refine ⟨a, fun w hw => ?_⟩
      obtain ⟨j, w', h1, h2⟩ := b w hw
      exact ⟨j, w', by omega, h2⟩
    unfold exts at h1
    split at h1
    next t ht =>
      split at h1
      next hm => exact up h1
      next hm =>
        simp only [Option.bind_eq_some_iff, Option.map_eq_some_iff] at h1
        obtain ⟨us, h2, vs, h3, rfl⟩ := h1
        obtain ⟨a, b⟩ := exts_pw hr h3
        constructor
        · rw [List.pairwise_append]
          refine ⟨?_, a, fun x hx y hy => ?_⟩
          · rw [List.pairwise_map]
            exact (hr _ _ h2).imp fun q => List.cons_lt_cons_iff.mpr (.inr ⟨rfl, q⟩)
          · obtain ⟨u, _, rfl⟩ := List.mem_map.mp hx
            obtain ⟨j, w', q1, rfl⟩ := b y hy
            exact List.cons_lt_cons_iff.mpr (.inl (by omega))
        · intro w hw
          rcases List.mem_append.mp hw with q | q
          · obtain ⟨u, _, rfl⟩ := List.mem_map.mp q
            exact ⟨k, u, Nat.le_refl _, rfl⟩
          · exact (up h3).2 w q
    next => exact up h1
theorem ways_pw {E : List (Int × Int)} {room : Int} : ∀ {n : Nat} {pl : List Int} {ws : List (List Nat)}, waysP E room n pl = some ws → ws.Pairwise (· < ·)
  | 0, pl, ws, h => by cases h
  | n + 1, pl, ws, h => by
    unfold waysP at h
    split at h
    · cases h
    · split at h
      · cases h
        simp
      · exact (exts_pw (fun q us hq => ways_pw hq) h).1
theorem countP_two {α : Type} {p q r : α → Bool} : ∀ {l : List α}, (∀ x ∈ l, p x = true → r x = true) → (∀ x ∈ l, q x = true → r x = true) → (∀ x ∈ l, p x = true → q x = true → False) → l.countP p + l.countP q ≤ l.countP r
  | [], _, _, _ => by simp
  | x :: l, h1, h2, h3 => by
    have ih := countP_two (l := l) (fun x h => h1 x (by simp [h])) (fun x h => h2 x (by simp [h])) (fun x h => h3 x (by simp [h]))
    have a1 := h1 x (by simp)
    have a2 := h2 x (by simp)
    have a3 := h3 x (by simp)
    simp only [List.countP_cons]
    cases hp : p x <;> cases hq : q x <;> cases hr : r x <;> simp_all <;> omega
def outE (pl : List Int) (h : Int) (e : Int × Int) : Bool := match adj e h with
  | some t => decide (t ∉ pl)
  | none => false
def offE (pl : List Int) (e : Int × Int) : Bool := decide (e.1 ∉ pl) && decide (e.2 ∉ pl)
theorem exts_cnt {rec : List Int → Option (List (List Nat))} {pl : List Int} {h : Int} {B : Nat} (hr : ∀ t us, t ∉ pl → rec (pl ++ [t]) = some us → us.length ≤ B) : ∀ {E : List (Int × Int)} {k : Nat} {ws : List (List Nat)}, exts rec pl h k E = some ws → ws.length ≤ E.countP (outE pl h) * B
  | [], k, ws, e => by
    cases e
    simp
  | e :: es, k, ws, h1 => by
    unfold exts at h1
    rw [List.countP_cons]
    have up : es.countP (outE pl h) * B ≤ (es.countP (outE pl h) + if outE pl h e = true then 1 else 0) * B := Nat.mul_le_mul_right _ (by omega)
    split at h1
    next t ht =>
      split at h1
      next hm => exact Nat.le_trans (exts_cnt hr h1) up
      next hm =>
        simp only [Option.bind_eq_some_iff, Option.map_eq_some_iff] at h1
        obtain ⟨us, h2, vs, h3, rfl⟩ := h1
        have a := exts_cnt hr h3
        have b := hr t us hm h2
        have c : outE pl h e = true := by simp [outE, ht, hm]
        rw [if_pos c, Nat.succ_mul, List.length_append, List.length_map]
        omega
    next => exact Nat.le_trans (exts_cnt hr h1) up
def G (m : Nat) : Nat := [1, 1, 2, 3, 4, 6, 9, 12, 18, 27, 36].getD m 0
theorem G_step : ∀ m ≤ 10, ∀ d ≤ 10, ∀ m' ≤ 10, d + m' ≤ m → d * G m' ≤ G m := by decide
theorem G_one : ∀ m ≤ 10, 1 ≤ G m := by decide
theorem ways_cnt {E : List (Int × Int)} {room : Int} (hE : ∀ e ∈ E, e.1 ≠ e.2) (hl : E.length ≤ 10) : ∀ {n : Nat} {pl : List Int} {ws : List (List Nat)}, pl.Nodup → waysP E room n pl = some ws → ws.length ≤ G (E.countP (offE pl.dropLast))
  | 0, pl, ws, _, h => by cases h
  | n + 1, pl, ws, nd, h => by
    have hc : ∀ p : Int × Int → Bool, E.countP p ≤ 10 := fun p => Nat.le_trans List.countP_le_length hl
    unfold waysP at h
    split at h
    · cases h
    next x hx =>
      split at h
      · cases h
        exact G_one _ (hc _)
      · have hp : pl = pl.dropLast ++ [x] := by
          have hne : pl ≠ [] := by rintro rfl; cases hx
          have e1 := List.dropLast_concat_getLast hne
          rw [List.getLast?_eq_getLast hne] at hx
          rw [Option.some.inj hx] at e1
          exact e1.symm
        have hxd : x ∉ pl.dropLast := fun z => by
          rw [hp, List.nodup_append] at nd
          exact nd.2.2 x z x (by simp) rfl
        have hB := exts_cnt (B := G (E.countP (offE pl))) (fun t us ht hu => by
          have nd' : (pl ++ [t]).Nodup := by
            rw [List.nodup_append]
            exact ⟨nd, by simp, fun a ha b hb => by
              have : b = t := by simpa using hb
              subst this
              exact fun z => ht (z ▸ ha)⟩
          have := ways_cnt hE hl nd' hu
          simpa using this) h
        refine Nat.le_trans hB (G_step _ (hc _) _ (hc _) _ (hc _) (countP_two (fun e he q => ?_) (fun e he q => ?_) (fun e he q1 q2 => ?_)))
        · unfold outE at q
          split at q
          next t ht =>
            have ht' : t ∉ pl := by simpa using q
            have htd : t ∉ pl.dropLast := fun z => ht' (List.dropLast_subset _ z)
            unfold adj at ht
            unfold offE
            split at ht
            next e1 => cases ht; simp [e1, hxd, htd]
            next =>
              split at ht
              next e2 => cases ht; simp [e2, hxd, htd]
              next => cases ht
          next => cases q
        · unfold offE at q ⊢
          simp only [Bool.and_eq_true, decide_eq_true_eq] at q ⊢
          exact ⟨fun z => q.1 (List.dropLast_subset _ z), fun z => q.2 (List.dropLast_subset _ z)⟩
        · have hxp : x ∈ pl := by rw [hp]; simp
          unfold offE at q2
          simp only [Bool.and_eq_true, decide_eq_true_eq] at q2
          unfold outE adj at q1
          split at q1
          next t ht =>
            split at ht
            next e1 => exact q2.1 (e1 ▸ hxp)
            next =>
              split at ht
              next e2 => exact q2.2 (e2 ▸ hxp)
              next => cases ht
          next => cases q1
/-! ### the last opening of a way -/
end Hg
end
section
set_option linter.all false
set_option maxHeartbeats 1000000
namespace Hg
/-! ### as many ways apart as openings to watch -/
abbrev Arc := Int × Int × Int
def ind (b : Bool) : Int := if b then 1 else 0
/-- what flows out of x, less what flows in -/
def net (x : Int) : List Arc → Int
  | [] => 0
  | a :: L => a.2.2 * (ind (decide (a.1 = x)) - ind (decide (a.2.1 = x))) + net x L
/-- what flows out of a set of rooms, less what flows in -/
def bnd (S : Int → Bool) : List Arc → Int
  | [] => 0
  | a :: L => a.2.2 * (ind (S a.1) - ind (S a.2.1)) + bnd S L
def ends (L : List Arc) : List (Int × Int) := L.map fun a => (a.1, a.2.1)
def sumV (S : Int → Bool) (g : Int → Int) : List Int → Int
  | [] => 0
  | x :: V => ind (S x) * g x + sumV S g V
theorem sumV_add (S : Int → Bool) (g h : Int → Int) : ∀ V, sumV S (fun x => g x + h x) V = sumV S g V + sumV S h V
  | [] => rfl
  | x :: V => by simp only [sumV, sumV_add S g h V, Int.mul_add]; omega
theorem sumV_one (S : Int → Bool) (c a : Int) : ∀ {V : List Int}, V.Nodup → a ∈ V → sumV S (fun x => c * ind (decide (a = x))) V = c * ind (S a)
  | x :: V, nd, h => by
    have n := List.nodup_cons.mp nd
    simp only [sumV]
    by_cases e : a = x
    · subst e
      have z : sumV S (fun x => c * ind (decide (a = x))) V = 0 := by
        have : ∀ {U : List Int}, a ∉ U → sumV S (fun x => c * ind (decide (a = x))) U = 0 := by
          intro U
          induction U with
          | nil => intro _; rfl
          | cons y U ih =>
            intro hy
            have h1 : ¬ a = y := fun q => hy (by simp [q])
            simp only [sumV, h1, decide_false, ind, Bool.false_eq_true, if_false, Int.mul_zero, Int.zero_add]
            exact ih fun q => hy (by simp [q])
        exact this n.1
      rw [z]
      simp only [decide_true, ind, if_true, Int.mul_one, Int.add_zero]
      cases S a <;> simp
    · have hx : a ∈ V := by
        rcases List.mem_cons.mp h with q | q
        · exact absurd q e
        · exact q
      rw [sumV_one S c a n.2 hx]
      simp only [e, decide_false, ind, Bool.false_eq_true, if_false, Int.mul_zero, Int.zero_add]
theorem sumV_net (S : Int → Bool) {V : List Int} (nd : V.Nodup) : ∀ {L : List Arc}, (∀ a ∈ L, a.1 ∈ V ∧ a.2.1 ∈ V) → sumV S (fun x => net x L) V = bnd S L
  | [], _ => by
    simp only [net, bnd]
    clear nd
    induction V with
    | nil => rfl
    | cons x V ih => simp [sumV, ih]
  | a :: L, h => by
    obtain ⟨h1, h2⟩ := h a (by simp)
    have ih := sumV_net S nd (L := L) fun a ha => h a (by simp [ha])
    simp only [net, bnd]
    rw [sumV_add, ih]
    congr 1
    have e : (fun x => a.2.2 * (ind (decide (a.1 = x)) - ind (decide (a.2.1 = x)))) = fun x => a.2.2 * ind (decide (a.1 = x)) + (-a.2.2) * ind (decide (a.2.1 = x)) := by
      funext x
      rw [Int.mul_sub, Int.neg_mul]
      omega
    rw [e, sumV_add, sumV_one S _ _ nd h1, sumV_one S _ _ nd h2, Int.mul_sub, Int.neg_mul]
    omega
theorem sumV_src (S : Int → Bool) (g : Int → Int) (s t : Int) (hs : S s = true) (ht : S t = false) (hz : ∀ x, x ≠ s → x ≠ t → g x = 0) : ∀ {V : List Int}, V.Nodup → s ∈ V → sumV S g V = g s
  | x :: V, nd, h => by
    have n := List.nodup_cons.mp nd
    have zero : ∀ {U : List Int}, s ∉ U → sumV S g U = 0 := by
      intro U
      induction U with
      | nil => intro _; rfl
      | cons y U ih =>
        intro hy
        have h1 : y ≠ s := fun q => hy (by simp [q])
        rw [sumV, ih fun q => hy (by simp [q])]
        by_cases e : y = t
        · subst e
          simp [ht, ind]
        · simp [hz y h1 e]
    rw [sumV]
    by_cases e : x = s
    · subst e
      rw [zero n.1, hs]
      simp [ind]
    · have hx : s ∈ V := by
        rcases List.mem_cons.mp h with q | q
        · exact absurd q.symm e
        · exact q
      rw [sumV_src S g s t hs ht hz n.2 hx]
      by_cases e2 : x = t
      · subst e2
        simp [ht, ind]
      · simp [hz x e e2]
/-! paths by any steps -/
inductive Pth (r : Int → Int → Prop) : Int → List Int → Int → Prop
  | nil (x : Int) : Pth r x [] x
  | cons {x y z : Int} {p : List Int} : r x y → Pth r y p z → Pth r x (y :: p) z
inductive Rch (r : Int → Int → Prop) (s : Int) : Int → Prop
  | zero : Rch r s s
  | step {x y : Int} : Rch r s x → r x y → Rch r s y
theorem pth_snoc {r : Int → Int → Prop} {x y z : Int} {p : List Int} (w : Pth r x p y) (a : r y z) : Pth r x (p ++ [z]) z := by
  induction w with
  | nil x => exact .cons a (.nil z)
  | cons b _ ih => exact .cons b (ih a)
theorem pth_last {r : Int → Int → Prop} {x y : Int} {p : List Int} (w : Pth r x p y) : (x :: p).getLast? = some y := by
  induction w with
  | nil x => rfl
  | cons a _ ih => rw [List.getLast?_cons_cons]; exact ih
theorem pth_cut {r : Int → Int → Prop} {y : Int} : ∀ {p : List Int} {x z : Int}, Pth r x p z → (x :: p).Nodup → y ∈ x :: p → ∃ q, Pth r x q y ∧ (x :: q).Nodup ∧ ∀ t ∈ q, t ∈ p
  | p, x, z, w, nd, hy => by
    by_cases e : y = x
    · subst e
      exact ⟨[], .nil _, by simp, by simp⟩
    · cases w with
      | nil => exact absurd (by simpa using hy) e
      | @cons _ u _ p a w =>
        have n := List.nodup_cons.mp nd
        obtain ⟨q, h1, h2, h3⟩ := pth_cut w n.2 (by
          rcases List.mem_cons.mp hy with h | h
          · exact absurd h e
          · exact h)
        have sub : ∀ t ∈ u :: q, t ∈ u :: p := fun t ht => by
          rcases List.mem_cons.mp ht with rfl | ht
          · simp
          · exact List.mem_cons_of_mem _ (h3 t ht)
        exact ⟨u :: q, .cons a h1, List.nodup_cons.mpr ⟨fun h => n.1 (sub x h), h2⟩, sub⟩
theorem rch_pth {r : Int → Int → Prop} {s x : Int} (h : Rch r s x) : ∃ p, Pth r s p x ∧ (s :: p).Nodup := by
  induction h with
  | zero => exact ⟨[], .nil _, by simp⟩
  | @step x y _ a ih =>
    obtain ⟨p, w, nd⟩ := ih
    by_cases h : y ∈ s :: p
    · obtain ⟨q, h1, h2, _⟩ := pth_cut w nd h
      exact ⟨q, h1, h2⟩
    · refine ⟨p ++ [y], pth_snoc w a, ?_⟩
      rw [← List.cons_append, List.nodup_append]
      refine ⟨nd, by simp, fun u hu t ht => ?_⟩
      have : t = y := by simpa using ht
      subst this
      exact fun e => h (e ▸ hu)
/-! a step along an arc whose flow, in that direction, is such as G says -/
def Stp (G : Int → Prop) (L : List Arc) (x y : Int) : Prop := ∃ (k : Nat) (a : Arc), L[k]? = some a ∧ ((a.1 = x ∧ a.2.1 = y ∧ G a.2.2) ∨ (a.2.1 = x ∧ a.1 = y ∧ G (-a.2.2)))
theorem net_set (x : Int) : ∀ {L : List Arc} {k : Nat} {a : Arc}, L[k]? = some a → ∀ f : Int, net x (L.set k (a.1, a.2.1, f)) = net x L + (f - a.2.2) * (ind (decide (a.1 = x)) - ind (decide (a.2.1 = x)))
  | b :: L, 0, a, h, f => by
    cases h
    simp only [List.set_cons_zero, net, Int.sub_mul]
    omega
  | b :: L, k + 1, a, h, f => by
    rw [List.getElem?_cons_succ] at h
    simp only [List.set_cons_succ, net, net_set x h f]
    omega
theorem ends_set {L : List Arc} {k : Nat} {a : Arc} (h : L[k]? = some a) (f : Int) : ends (L.set k (a.1, a.2.1, f)) = ends L := by
  unfold ends
  rw [List.map_set]
  refine List.ext_getElem? fun i => ?_
  rw [List.getElem?_set]
  split
  next e =>
    subst e
    split
    next => rw [List.getElem?_map, h]; rfl
    next hn =>
      rw [List.length_map] at hn
      rcases Nat.lt_or_ge k L.length with q | q
      · exact absurd q hn
      · rw [List.getElem?_eq_none q] at h; cases h
  next => rfl
def Chg (c : Int) (G : Int → Prop) (a b : Arc) : Prop := b.1 = a.1 ∧ b.2.1 = a.2.1 ∧ ((G a.2.2 ∧ b.2.2 = a.2.2 + c) ∨ (G (-a.2.2) ∧ b.2.2 = a.2.2 - c))
/-- c more along a path -/
theorem shift (c : Int) (G : Int → Prop) {L : List Arc} (hL : ∀ a ∈ L, a.1 ≠ a.2.1) : ∀ {p : List Int} {x t : Int}, Pth (Stp G L) x p t → (x :: p).Nodup →
    ∃ L' w, ends L' = ends L ∧ Fol (ends L) x w p ∧ (∀ z, net z L' = net z L + c * (ind (decide (x = z)) - ind (decide (t = z)))) ∧ (∀ k, k ∉ w → L'[k]? = L[k]?) ∧ (∀ k ∈ w, ∃ a b, L[k]? = some a ∧ L'[k]? = some b ∧ Chg c G a b) ∧ ∀ k ∈ w, ∀ a, L[k]? = some a → a.1 ∈ x :: p ∧ a.2.1 ∈ x :: p
  | p, x, t, w, nd => by
    cases w with
    | nil => exact ⟨L, [], rfl, rfl, fun z => by simp, fun _ _ => rfl, by simp, by simp⟩
    | @cons _ y _ p st w =>
      have n := List.nodup_cons.mp nd
      obtain ⟨L', w', h1, h2, h3, h4, h5, h6⟩ := shift c G hL w n.2
      obtain ⟨k, a, hk, hd⟩ := st
      have hne := hL a (List.mem_of_getElem? hk)
      have hkw : k ∉ w' := fun z => by
        obtain ⟨q1, q2⟩ := h6 k z a hk
        rcases hd with ⟨e, _, _⟩ | ⟨e, _, _⟩
        · exact n.1 (e ▸ q1)
        · exact n.1 (e ▸ q2)
      have hk' : L'[k]? = some a := (h4 k hkw).trans hk
      have hE : (ends L)[k]? = some (a.1, a.2.1) := by
        unfold ends
        rw [List.getElem?_map, hk]
        rfl
      have hlt : k < L'.length := by
        rcases Nat.lt_or_ge k L'.length with q | q
        · exact q
        · rw [List.getElem?_eq_none q] at hk'; cases hk'
      -- the new flow of the first arc
      obtain ⟨f, hf1, hf2, hf3⟩ : ∃ f : Int, (∀ z, (f - a.2.2) * (ind (decide (a.1 = z)) - ind (decide (a.2.1 = z))) = c * (ind (decide (x = z)) - ind (decide (y = z)))) ∧ Chg c G a (a.1, a.2.1, f) ∧ adj (a.1, a.2.1) x = some y := by
        rcases hd with ⟨e1, e2, e3⟩ | ⟨e1, e2, e3⟩
        · refine ⟨a.2.2 + c, fun z => ?_, ⟨rfl, rfl, .inl ⟨e3, rfl⟩⟩, ?_⟩
          · rw [e1, e2, show a.2.2 + c - a.2.2 = c from by omega]
          · unfold adj
            rw [if_pos e1, e2]
        · refine ⟨a.2.2 - c, fun z => ?_, ⟨rfl, rfl, .inr ⟨e3, rfl⟩⟩, ?_⟩
          · rw [e1, e2, show a.2.2 - c - a.2.2 = -c from by omega, Int.neg_mul, ← Int.mul_neg]
            congr 1
            omega
          · unfold adj
            simp only
            rw [if_neg (by rw [e2]; intro q; exact hne (by rw [e2, e1, q])), if_pos e1, e2]
      refine ⟨L'.set k (a.1, a.2.1, f), k :: w', by rw [ends_set hk' f, h1], ⟨_, y, p, hE, hf3, rfl, h2⟩, fun z => ?_, fun j hj => ?_, fun j hj => ?_, fun j hj b hb => ?_⟩
      · rw [net_set z hk' f, h3 z, hf1 z, Int.add_assoc, ← Int.mul_add]
        congr 2
        omega
      · have hj1 : k ≠ j := fun q => hj (by simp [q])
        rw [List.getElem?_set_ne hj1]
        exact h4 j fun q => hj (by simp [q])
      · rcases List.mem_cons.mp hj with rfl | hj
        · exact ⟨a, _, hk, by rw [List.getElem?_set_self hlt], hf2⟩
        · obtain ⟨a', b', q1, q2, q3⟩ := h5 j hj
          have hjk : k ≠ j := fun q => hkw (q ▸ hj)
          exact ⟨a', b', q1, by rw [List.getElem?_set_ne hjk]; exact q2, q3⟩
      · rcases List.mem_cons.mp hj with rfl | hj
        · rw [hk] at hb
          cases hb
          rcases hd with ⟨e1, e2, _⟩ | ⟨e1, e2, _⟩
          · rw [e1, e2]; simp
          · rw [e1, e2]; simp
        · obtain ⟨q1, q2⟩ := h6 j hj b hb
          exact ⟨List.mem_cons_of_mem _ q1, List.mem_cons_of_mem _ q2⟩
/-! flows -/
structure Flow (E : List (Int × Int)) (s t : Int) (v : Int) (L : List Arc) : Prop where
  en : ends L = E
  un : ∀ a ∈ L, -1 ≤ a.2.2 ∧ a.2.2 ≤ 1
  cons : ∀ x, x ≠ s → x ≠ t → net x L = 0
  val : net s L = v
theorem len_of {E : List (Int × Int)} {L : List Arc} (h : ends L = E) : L.length = E.length := by rw [← h, ends, List.length_map]
theorem net_le (x : Int) : ∀ {L : List Arc}, (∀ a ∈ L, a.1 ≠ a.2.1) → (∀ a ∈ L, -1 ≤ a.2.2 ∧ a.2.2 ≤ 1) → net x L ≤ L.length
  | [], _, _ => by simp [net]
  | a :: L, h0, h => by
    have ih := net_le x (L := L) (fun a ha => h0 a (by simp [ha])) fun a ha => h a (by simp [ha])
    have ha := h a (by simp)
    have h1 : a.2.2 * (ind (decide (a.1 = x)) - ind (decide (a.2.1 = x))) ≤ 1 := by
      by_cases e1 : a.1 = x <;> by_cases e2 : a.2.1 = x <;> simp [ind, e1, e2] <;> omega
    simp only [net, List.length_cons]
    omega
theorem unlike_of {E : List (Int × Int)} (hE : ∀ e ∈ E, e.1 ≠ e.2) {L : List Arc} (h : ends L = E) : ∀ a ∈ L, a.1 ≠ a.2.1 := fun a ha => by
  have := hE (a.1, a.2.1) (by rw [← h]; exact List.mem_map.mpr ⟨a, ha, rfl⟩)
  exact this
open Classical in
/-- a flow to which nothing can be added -/
theorem max_flow {E : List (Int × Int)} (hE : ∀ e ∈ E, e.1 ≠ e.2) {s t : Int} (hst : s ≠ t) : ∃ v L, 0 ≤ v ∧ Flow E s t v L ∧ ¬ Rch (Stp (fun g => g < 1) L) s t := by
  have key : ∀ (n : Nat) (v : Int) (L : List Arc), 0 ≤ v → Flow E s t v L → (E.length : Int) - v < n → ∃ v L, 0 ≤ v ∧ Flow E s t v L ∧ ¬ Rch (Stp (fun g => g < 1) L) s t := by
    intro n
    induction n with
    | zero =>
      intro v L h0 F hn
      have := net_le s (unlike_of hE F.en) F.un
      rw [F.val, len_of F.en] at this
      omega
    | succ n ih =>
      intro v L h0 F hn
      by_cases hr : Rch (Stp (fun g => g < 1) L) s t
      · obtain ⟨p, w, nd⟩ := rch_pth hr
        obtain ⟨L', w', h1, h2, h3, h4, h5, _⟩ := shift 1 (fun g => g < 1) (unlike_of hE F.en) w nd
        refine ih (v + 1) L' (by omega) ⟨h1.trans F.en, fun b hb => ?_, fun x hs ht => ?_, ?_⟩ (by omega)
        · obtain ⟨k, hk⟩ := List.mem_iff_getElem?.mp hb
          by_cases hw : k ∈ w'
          · obtain ⟨a, b', q1, q2, _, _, q3⟩ := h5 k hw
            rw [hk] at q2
            cases q2
            have := F.un a (List.mem_of_getElem? q1)
            rcases q3 with ⟨g, e⟩ | ⟨g, e⟩ <;> omega
          · rw [h4 k hw] at hk
            exact F.un b (List.mem_of_getElem? hk)
        · rw [h3 x, F.cons x hs ht]
          have e1 : ¬ s = x := fun q => hs q.symm
          have e2 : ¬ t = x := fun q => ht q.symm
          simp [ind, e1, e2]
        · rw [h3 s, F.val]
          have e2 : ¬ t = s := fun q => hst q.symm
          simp [ind, e2]
      · exact ⟨v, L, h0, F, hr⟩
  refine key (E.length + 1) 0 (E.map fun e => (e.1, e.2, 0)) (Int.le_refl _) ⟨?_, ?_, ?_, ?_⟩ (by omega)
  · unfold ends
    rw [List.map_map]
    conv => rhs; rw [← List.map_id E]
    rfl
  · intro a ha
    obtain ⟨e, _, rfl⟩ := List.mem_map.mp ha
    simp
  · intro x _ _
    clear hE key
    induction E with
    | nil => rfl
    | cons e E ih => simp [net, ih]
  · clear hE key
    induction E with
    | nil => rfl
    | cons e E ih => simp [net, ih]
/-- the numbers of the openings of a kind -/
def ixs (P : Arc → Bool) : List Arc → Nat → List Nat
  | [], _ => []
  | a :: L, k => if P a then k :: ixs P L (k + 1) else ixs P L (k + 1)
theorem ixs_mem {P : Arc → Bool} : ∀ {L : List Arc} {k j : Nat}, j ∈ ixs P L k ↔ ∃ i a, L[i]? = some a ∧ P a = true ∧ j = k + i
  | [], k, j => by simp [ixs]
  | b :: L, k, j => by
    have ih := ixs_mem (P := P) (L := L) (k := k + 1) (j := j)
    unfold ixs
    constructor
    · intro h
      split at h
      next hb =>
        rcases List.mem_cons.mp h with rfl | h
        · exact ⟨0, b, rfl, hb, rfl⟩
        · obtain ⟨i, a, h1, h2, h3⟩ := ih.mp h
          exact ⟨i + 1, a, by simpa using h1, h2, by omega⟩
      next =>
        obtain ⟨i, a, h1, h2, h3⟩ := ih.mp h
        exact ⟨i + 1, a, by simpa using h1, h2, by omega⟩
    · rintro ⟨i, a, h1, h2, h3⟩
      cases i with
      | zero =>
        cases h1
        rw [if_pos h2]
        simp [h3]
      | succ i =>
        have : j ∈ ixs P L (k + 1) := ih.mpr ⟨i, a, by simpa using h1, h2, by omega⟩
        split
        · exact List.mem_cons_of_mem _ this
        · exact this
theorem ixs_pw {P : Arc → Bool} : ∀ (L : List Arc) (k : Nat), (ixs P L k).Pairwise (· < ·)
  | [], k => .nil
  | b :: L, k => by
    unfold ixs
    split
    · refine List.pairwise_cons.mpr ⟨fun j hj => ?_, ixs_pw L (k + 1)⟩
      obtain ⟨i, _, _, _, h3⟩ := ixs_mem.mp hj
      omega
    · exact ixs_pw L (k + 1)
/-- a way crosses each line between its ends -/
theorem fol_cross {E : List (Int × Int)} {S : Int → Bool} : ∀ {w : List Nat} {x y : Int} {p : List Int}, Fol E x w p → (x :: p).getLast? = some y → S x = true → S y = false → ∃ k ∈ w, ∃ e, E[k]? = some e ∧ S e.1 ≠ S e.2
  | [], x, y, p, h, hl, hx, hy => by
    have : p = [] := h
    subst this
    have : x = y := Option.some.inj hl
    rw [← this, hx] at hy
    cases hy
  | k :: w, x, y, p, ⟨e, t, q, h1, h2, h3, h4⟩, hl, hx, hy => by
    subst h3
    rw [List.getLast?_cons_cons] at hl
    by_cases ht : S t = true
    · obtain ⟨j, hj, r⟩ := fol_cross h4 hl ht hy
      exact ⟨j, by simp [hj], r⟩
    · refine ⟨k, by simp, e, h1, fun q => ?_⟩
      unfold adj at h2
      split at h2
      next e1 => cases h2; rw [e1, hx] at q; exact ht q.symm
      next =>
        split at h2
        next e2 => cases h2; rw [e2, hx] at q; exact ht q
        next => cases h2
open Classical in
/-- openings that all ways cross, as many as the flow is -/
theorem cut_of {E : List (Int × Int)} {s t v : Int} {L : List Arc} (F : Flow E s t v L) (hr : ¬ Rch (Stp (fun g => g < 1) L) s t) {V : List Int} (nd : V.Nodup) (hV : ∀ a ∈ L, a.1 ∈ V ∧ a.2.1 ∈ V) (hs : s ∈ V) :
    ∃ C : List Nat, C.Pairwise (· < ·) ∧ (C.length : Int) = v ∧ (∀ k ∈ C, k < E.length) ∧ ∀ w p, Fol E s w p → (s :: p).getLast? = some t → ∃ k ∈ w, k ∈ C := by
  let S : Int → Bool := fun x => decide (Rch (Stp (fun g => g < 1) L) s x)
  have hSs : S s = true := decide_eq_true .zero
  have hSt : S t = false := decide_eq_false hr
  have hb : bnd S L = v := by
    rw [← sumV_net S nd hV, sumV_src S (fun x => net x L) s t hSs hSt F.cons nd hs]
    exact F.val
  let P : Arc → Bool := fun a => decide (S a.1 ≠ S a.2.1)
  have step : ∀ {k : Nat} {a : Arc}, L[k]? = some a → (S a.1 = true → S a.2.1 = false → a.2.2 = 1) ∧ (S a.2.1 = true → S a.1 = false → a.2.2 = -1) := fun {k a} hk => by
    have hu := F.un a (List.mem_of_getElem? hk)
    constructor
    · intro h1 h2
      rcases Int.lt_or_eq_of_le hu.2 with q | q
      · have : S a.2.1 = true := decide_eq_true (.step (of_decide_eq_true h1) ⟨k, a, hk, .inl ⟨rfl, rfl, q⟩⟩)
        rw [this] at h2
        cases h2
      · exact q
    · intro h1 h2
      rcases Int.lt_or_eq_of_le hu.1 with q | q
      · have : S a.1 = true := decide_eq_true (.step (of_decide_eq_true h1) ⟨k, a, hk, .inr ⟨rfl, rfl, by omega⟩⟩)
        rw [this] at h2
        cases h2
      · omega
  have cnt : ∀ {M : List Arc} {k : Nat}, (∀ a ∈ M, (S a.1 = true → S a.2.1 = false → a.2.2 = 1) ∧ (S a.2.1 = true → S a.1 = false → a.2.2 = -1)) → ((ixs P M k).length : Int) = bnd S M := by
    intro M
    induction M with
    | nil => intro k _; rfl
    | cons a M ih =>
      intro k h
      have ih' := ih (k := k + 1) fun a ha => h a (by simp [ha])
      obtain ⟨g1, g2⟩ := h a (by simp)
      simp only [ixs, bnd, P]
      cases h1 : S a.1 <;> cases h2 : S a.2.1
      · simp only [ind]
        simpa [P] using ih'
      · have := g2 h2 h1
        simp [ind, this]
        rw [← ih']
        simp only [P, decide_not]
        omega
      · have := g1 h1 h2
        simp [ind, this]
        rw [← ih']
        simp only [P, decide_not]
        omega
      · simp only [ind]
        simpa [P] using ih'
  refine ⟨ixs P L 0, ixs_pw L 0, ?_, fun k hk => ?_, fun w p hf hl => ?_⟩
  · rw [cnt fun a ha => by
      obtain ⟨k, hk⟩ := List.mem_iff_getElem?.mp ha
      exact step hk, hb]
  · obtain ⟨i, a, h1, _, h3⟩ := ixs_mem.mp hk
    rw [← len_of F.en]
    rcases Nat.lt_or_ge i L.length with q | q
    · omega
    · rw [List.getElem?_eq_none q] at h1; cases h1
  · obtain ⟨k, hk, e, he, hne⟩ := fol_cross hf hl hSs hSt
    rw [← F.en, ends, List.getElem?_map] at he
    obtain ⟨a, ha, rfl⟩ := Option.map_eq_some_iff.mp he
    exact ⟨k, hk, ixs_mem.mpr ⟨k, a, ha, decide_eq_true hne, by simp⟩⟩
open Classical in
/-- a flow is so many ways apart -/
theorem flow_ways {E : List (Int × Int)} (hE : ∀ e ∈ E, e.1 ≠ e.2) {s t : Int} (hst : s ≠ t) {V : List Int} (nd : V.Nodup) (hV : ∀ e ∈ E, e.1 ∈ V ∧ e.2 ∈ V) (hs : s ∈ V) : ∀ (n : Nat) (L : List Arc), Flow E s t n L →
    ∃ ws : List (List Nat), ws.length = n ∧ (∀ w ∈ ws, ∃ p, Fol E s w p ∧ (s :: p).Nodup ∧ (s :: p).getLast? = some t) ∧ (∀ w ∈ ws, ∀ k ∈ w, ∃ a, L[k]? = some a ∧ a.2.2 ≠ 0) ∧ ws.Pairwise fun w v => ∀ k ∈ w, k ∉ v
  | 0, L, F => ⟨[], rfl, by simp, by simp, .nil⟩
  | n + 1, L, F => by
    have hVL : ∀ a ∈ L, a.1 ∈ V ∧ a.2.1 ∈ V := fun a ha => hV (a.1, a.2.1) (by rw [← F.en]; exact List.mem_map.mpr ⟨a, ha, rfl⟩)
    have hr : Rch (Stp (fun g => g = 1) L) s t := by
      refine Classical.byContradiction fun hr => ?_
      let S : Int → Bool := fun x => decide (Rch (Stp (fun g => g = 1) L) s x)
      have hSs : S s = true := decide_eq_true .zero
      have hSt : S t = false := decide_eq_false hr
      have hb : bnd S L = (n + 1 : Nat) := by
        rw [← sumV_net S nd hVL, sumV_src S (fun x => net x L) s t hSs hSt F.cons nd hs]
        exact F.val
      have step : ∀ a ∈ L, a.2.2 * (ind (S a.1) - ind (S a.2.1)) ≤ 0 := fun a ha => by
        obtain ⟨k, hk⟩ := List.mem_iff_getElem?.mp ha
        have hu := F.un a ha
        cases h1 : S a.1 <;> cases h2 : S a.2.1
        · simp [ind]
        · simp only [ind, Bool.false_eq_true, if_false, if_true]
          have : a.2.2 ≠ -1 := fun q => by
            have : S a.1 = true := decide_eq_true (.step (of_decide_eq_true h2) ⟨k, a, hk, .inr ⟨rfl, rfl, by omega⟩⟩)
            rw [this] at h1
            cases h1
          omega
        · simp only [ind, Bool.false_eq_true, if_false, if_true]
          have : a.2.2 ≠ 1 := fun q => by
            have : S a.2.1 = true := decide_eq_true (.step (of_decide_eq_true h1) ⟨k, a, hk, .inl ⟨rfl, rfl, q⟩⟩)
            rw [this] at h2
            cases h2
          omega
        · simp [ind]
      have all : ∀ {M : List Arc}, (∀ a ∈ M, a.2.2 * (ind (S a.1) - ind (S a.2.1)) ≤ 0) → bnd S M ≤ 0 := by
        intro M
        induction M with
        | nil => intro _; exact Int.le_refl _
        | cons a M ih =>
          intro h
          have h1 := h a (by simp)
          have h2 := ih fun a ha => h a (by simp [ha])
          simp only [bnd]
          omega
      have := all step
      omega
    obtain ⟨p, w, ndp⟩ := rch_pth hr
    obtain ⟨L', w', h1, h2, h3, h4, h5, _⟩ := shift (-1) (fun g => g = 1) (unlike_of hE F.en) w ndp
    have zero : ∀ k ∈ w', ∃ b, L'[k]? = some b ∧ b.2.2 = 0 := fun k hk => by
      obtain ⟨a, b, q1, q2, _, _, q3⟩ := h5 k hk
      refine ⟨b, q2, ?_⟩
      rcases q3 with ⟨g, e⟩ | ⟨g, e⟩ <;> omega
    have F' : Flow E s t n L' := by
      refine ⟨h1.trans F.en, fun b hb => ?_, fun x hs ht => ?_, ?_⟩
      · obtain ⟨k, hk⟩ := List.mem_iff_getElem?.mp hb
        by_cases hw : k ∈ w'
        · obtain ⟨b', q1, q2⟩ := zero k hw
          rw [hk] at q1
          cases q1
          omega
        · rw [h4 k hw] at hk
          exact F.un b (List.mem_of_getElem? hk)
      · rw [h3 x, F.cons x hs ht]
        have e1 : ¬ s = x := fun q => hs q.symm
        have e2 : ¬ t = x := fun q => ht q.symm
        simp [ind, e1, e2]
      · rw [h3 s, F.val]
        have e2 : ¬ t = s := fun q => hst q.symm
        simp [ind, e2]
        omega
    obtain ⟨ws, q1, q2, q3, q4⟩ := flow_ways hE hst nd hV hs n L' F'
    have hlast : (s :: p).getLast? = some t := pth_last w
    rw [F.en] at h2
    refine ⟨w' :: ws, by simp [q1], fun v hv => ?_, fun v hv k hk => ?_, List.pairwise_cons.mpr ⟨fun v hv k hk hkv => ?_, q4⟩⟩
    · rcases List.mem_cons.mp hv with rfl | hv
      · exact ⟨p, h2, ndp, hlast⟩
      · exact q2 v hv
    · rcases List.mem_cons.mp hv with rfl | hv
      · obtain ⟨a, b, r1, r2, _, _, r3⟩ := h5 k hk
        refine ⟨a, r1, ?_⟩
        rcases r3 with ⟨g, e⟩ | ⟨g, e⟩ <;> omega
      · obtain ⟨a, r1, r2⟩ := q3 v hv k hk
        by_cases hw : k ∈ w'
        · obtain ⟨b, z1, z2⟩ := zero k hw
          rw [r1] at z1
          cases z1
          exact absurd z2 r2
        · exact ⟨a, by rw [← h4 k hw]; exact r1, r2⟩
    · obtain ⟨a, r1, r2⟩ := q3 v hv k hkv
      obtain ⟨b, z1, z2⟩ := zero k hk
      rw [r1] at z1
      cases z1
      exact r2 z2
/-- as many ways apart as openings that all ways cross -/
theorem menger {E : List (Int × Int)} (hE : ∀ e ∈ E, e.1 ≠ e.2) {s t : Int} (hst : s ≠ t) {V : List Int} (nd : V.Nodup) (hV : ∀ e ∈ E, e.1 ∈ V ∧ e.2 ∈ V) (hs : s ∈ V) :
    ∃ (C : List Nat) (ws : List (List Nat)), C.Pairwise (· < ·) ∧ ws.length = C.length ∧ (∀ k ∈ C, k < E.length) ∧ (∀ w p, Fol E s w p → (s :: p).getLast? = some t → ∃ k ∈ w, k ∈ C) ∧ (∀ w ∈ ws, ∃ p, Fol E s w p ∧ (s :: p).Nodup ∧ (s :: p).getLast? = some t) ∧ ws.Pairwise fun w v => ∀ k ∈ w, k ∉ v := by
  obtain ⟨v, L, h0, F, hr⟩ := max_flow hE hst
  obtain ⟨n, rfl⟩ : ∃ n : Nat, v = n := ⟨v.toNat, by omega⟩
  obtain ⟨C, c1, c2, c3, c4⟩ := cut_of F hr nd (fun a ha => hV (a.1, a.2.1) (by rw [← F.en]; exact List.mem_map.mpr ⟨a, ha, rfl⟩)) hs
  obtain ⟨ws, q1, q2, _, q4⟩ := flow_ways hE hst nd hV hs n L F
  exact ⟨C, ws, c1, by omega, c3, c4, q2, q4⟩
end Hg
end
section
set_option linter.all false
namespace Hg
/-! ### openings to watch, ways apart: the searches -/
def Hits (C : List Nat) (ths : List (List Nat)) : Prop := ∀ w ∈ ths, ∃ k ∈ w, k ∈ C
inductive Lx {α : Type} (r : α → α → Prop) : List α → List α → Prop
  | nil {b : α} {y : List α} : Lx r [] (b :: y)
  | head {a b : α} {x y : List α} : r a b → Lx r (a :: x) (b :: y)
  | tail {a : α} {x y : List α} : Lx r x y → Lx r (a :: x) (a :: y)
def missed (n : Nat) (ths : List (List Nat)) : List (List Nat) := ths.filter fun w => !decide (n ∈ w)
def stopsR : List (List Nat) → List Nat → Nat → Option (List Nat)
  | ths, [], _ => if ths.isEmpty then some [] else none
  | ths, n :: ns, many => if ths.isEmpty then some [] else if many = 0 then none else
    if (missed n ths).length < ths.length then
      match stopsR (missed n ths) ns (many - 1) with
      | some b => some (n :: b)
      | none => stopsR ths ns many
    else stopsR ths ns many
theorem stopsR_nil (nums : List Nat) (many : Nat) : stopsR [] nums many = some [] := by cases nums <;> rfl
theorem hits_missed {n : Nat} {b : List Nat} {ths : List (List Nat)} : Hits b (missed n ths) ↔ Hits (n :: b) ths := by
  constructor
  · intro h w hw
    by_cases q : n ∈ w
    · exact ⟨n, q, by simp⟩
    · obtain ⟨k, h1, h2⟩ := h w (List.mem_filter.mpr ⟨hw, by simpa using q⟩)
      exact ⟨k, h1, by simp [h2]⟩
  · intro h w hw
    obtain ⟨h1, h2⟩ := List.mem_filter.mp hw
    obtain ⟨k, h3, h4⟩ := h w h1
    rcases List.mem_cons.mp h4 with rfl | h4
    · simp [h3] at h2
    · exact ⟨k, h3, h4⟩
theorem missed_all {n : Nat} {ths : List (List Nat)} (h : ¬ (missed n ths).length < ths.length) : ∀ w ∈ ths, n ∉ w := by
  have := List.length_filter_eq_length_iff.mp (Nat.le_antisymm (List.length_filter_le (fun w => !decide (n ∈ w)) ths) (Nat.le_of_not_lt h))
  intro w hw
  simpa using this w hw
theorem stops_sound : ∀ {nums : List Nat} {ths : List (List Nat)} {many : Nat} {C : List Nat}, stopsR ths nums many = some C → C.Sublist nums ∧ C.length ≤ many ∧ Hits C ths
  | [], ths, many, C, h => by
    unfold stopsR at h
    split at h
    next e =>
      cases h
      have : ths = [] := by simpa using e
      subst this
      exact ⟨.slnil, by simp, by simp [Hits]⟩
    next => cases h
  | n :: ns, ths, many, C, h => by
    unfold stopsR at h
    split at h
    next e =>
      cases h
      have : ths = [] := by simpa using e
      subst this
      exact ⟨List.nil_sublist _, by simp, by simp [Hits]⟩
    next =>
      split at h
      next => cases h
      next hm =>
        split at h
        next =>
          split at h
          next b hb =>
            cases h
            obtain ⟨h1, h2, h3⟩ := stops_sound hb
            exact ⟨h1.cons₂ n, by simp; omega, hits_missed.mp h3⟩
          next =>
            obtain ⟨h1, h2, h3⟩ := stops_sound h
            exact ⟨h1.cons n, h2, h3⟩
        next =>
          obtain ⟨h1, h2, h3⟩ := stops_sound h
          exact ⟨h1.cons n, h2, h3⟩
theorem hits_nil {ths : List (List Nat)} (h : Hits [] ths) : ths = [] := by
  cases ths with
  | nil => rfl
  | cons w ws =>
    obtain ⟨k, _, hk⟩ := h w (by simp)
    cases hk
theorem stops_compl : ∀ {nums : List Nat} {ths : List (List Nat)} {many : Nat} {D : List Nat}, D.Sublist nums → D.length ≤ many → Hits D ths → stopsR ths nums many ≠ none
  | [], ths, many, D, hs, hl, hh => by
    have : D = [] := List.sublist_nil.mp hs
    subst this
    have := hits_nil hh
    subst this
    simp [stopsR]
  | n :: ns, ths, many, D, hs, hl, hh => by
    unfold stopsR
    split
    next => simp
    next he =>
      split
      next hm =>
        have : D = [] := by
          cases D with
          | nil => rfl
          | cons a D => simp at hl; omega
        subst this
        exact absurd (hits_nil hh) (by simpa using he)
      next hm =>
        split
        next =>
          split
          next => simp
          next hn =>
            cases hs with
            | cons _ hs => exact stops_compl hs hl hh
            | cons_cons _ hs => exact absurd hn (stops_compl hs (by simp at hl; omega) (hits_missed.mpr hh))
        next hlt =>
          cases hs with
          | cons _ hs => exact stops_compl hs hl hh
          | @cons_cons D' _ _ hs =>
            refine stops_compl hs (by simp at hl; omega) fun w hw => ?_
            obtain ⟨k, h1, h2⟩ := hh w hw
            rcases List.mem_cons.mp h2 with rfl | h2
            · exact absurd h1 (missed_all hlt w hw)
            · exact ⟨k, h1, h2⟩
/-- of those with the fewest the least -/
theorem stops_least : ∀ {nums : List Nat} {ths : List (List Nat)} {many : Nat} {C : List Nat}, nums.Pairwise (· < ·) → stopsR ths nums many = some C → (∀ D, D.Sublist nums → Hits D ths → many ≤ D.length) → ∀ D, D.Sublist nums → Hits D ths → D.length ≤ many → D = C ∨ Lx (· < ·) C D
  | [], ths, many, C, _, h, hmin, D, hs, hh, hl => by
    have : D = [] := List.sublist_nil.mp hs
    subst this
    have := (stops_sound h).1
    exact .inl (List.sublist_nil.mp this).symm
  | n :: ns, ths, many, C, pw, h, hmin, D, hs, hh, hl => by
    have p := List.pairwise_cons.mp pw
    unfold stopsR at h
    split at h
    next e =>
      cases h
      cases D with
      | nil => exact .inl rfl
      | cons a D => exact .inr .nil
    next he =>
      split at h
      next => cases h
      next hm =>
        have hup : ∀ D, D.Sublist ns → Hits D ths → many ≤ D.length := fun D hs hh => hmin D (hs.cons n) hh
        split at h
        next =>
          split at h
          next b hb =>
            cases h
            cases hs with
            | cons _ hs =>
              cases D with
              | nil => exact absurd (hits_nil hh) (by simpa using he)
              | cons a D => exact .inr (.head (p.1 a (hs.subset (by simp))))
            | @cons_cons D' _ _ hs =>
              rcases stops_least p.2 hb (fun X h1 h2 => by
                have := hmin (n :: X) (h1.cons₂ n) (hits_missed.mp h2)
                simp at this
                omega) D' hs (hits_missed.mpr hh) (by simp at hl; omega) with q | q
              · exact .inl (by rw [q])
              · exact .inr (.tail q)
          next hn =>
            cases hs with
            | cons _ hs => exact stops_least p.2 h hup D hs hh hl
            | cons_cons _ hs => exact absurd hn (stops_compl hs (by simp at hl; omega) (hits_missed.mpr hh))
        next hlt =>
          cases hs with
          | cons _ hs => exact stops_least p.2 h hup D hs hh hl
          | @cons_cons D' _ _ hs =>
            have := hup D' hs fun w hw => by
              obtain ⟨k, h1, h2⟩ := hh w hw
              rcases List.mem_cons.mp h2 with rfl | h2
              · exact absurd h1 (missed_all hlt w hw)
              · exact ⟨k, h1, h2⟩
            simp at hl
            omega
/-- fewest's loop -/
def fewL (ths : List (List Nat)) (nums : List Nat) : List Nat → Option (List Nat)
  | [] => none
  | m :: ms => match stopsR ths nums m with
    | some C => some C
    | none => fewL ths nums ms
theorem few_first {ths : List (List Nat)} {nums : List Nat} : ∀ {k n : Nat} {C : List Nat}, fewL ths nums (List.range' k n) = some C → ∃ m, k ≤ m ∧ m < k + n ∧ stopsR ths nums m = some C ∧ ∀ j, k ≤ j → j < m → stopsR ths nums j = none
  | k, 0, C, h => by cases h
  | k, n + 1, C, h => by
    rw [List.range'_succ, fewL] at h
    split at h
    next C' hC =>
      cases h
      exact ⟨k, Nat.le_refl _, by omega, hC, fun j h1 h2 => by omega⟩
    next hn =>
      obtain ⟨m, h1, h2, h3, h4⟩ := few_first h
      refine ⟨m, by omega, by omega, h3, fun j g1 g2 => ?_⟩
      rcases Nat.lt_or_ge k j with q | q
      · exact h4 j (by omega) g2
      · have : j = k := by omega
        subst this
        exact hn
theorem few_some {ths : List (List Nat)} {nums : List Nat} : ∀ {k n m : Nat}, k ≤ m → m < k + n → stopsR ths nums m ≠ none → ∃ C, fewL ths nums (List.range' k n) = some C
  | k, 0, m, h1, h2, _ => by omega
  | k, n + 1, m, h1, h2, h3 => by
    rw [List.range'_succ, fewL]
    split
    next C _ => exact ⟨C, rfl⟩
    next hn =>
      refine few_some (m := m) ?_ (by omega) h3
      rcases Nat.lt_or_ge k m with q | q
      · exact q
      · have : m = k := by omega
        subst this
        exact absurd hn h3
/-- what fewest tells -/
theorem few_spec {ths : List (List Nat)} {M : Nat} (hne : ∀ w ∈ ths, w ≠ [] ∧ ∀ k ∈ w, k < M) : ∃ C, fewL ths (List.range M) (List.range (M + 1)) = some C ∧ C.Sublist (List.range M) ∧ Hits C ths ∧ (∀ D, D.Sublist (List.range M) → Hits D ths → C.length ≤ D.length) ∧ ∀ D, D.Sublist (List.range M) → Hits D ths → D.length = C.length → D = C ∨ Lx (· < ·) C D := by
  have full : Hits (List.range M) ths := fun w hw => by
    obtain ⟨h1, h2⟩ := hne w hw
    cases w with
    | nil => exact absurd rfl h1
    | cons k w => exact ⟨k, by simp, List.mem_range.mpr (h2 k (by simp))⟩
  have hs := stops_compl (many := M) (List.Sublist.refl (List.range M)) (by simp) full
  rw [List.range_eq_range' (n := M + 1)]
  obtain ⟨C, hC⟩ := few_some (ths := ths) (nums := List.range M) (k := 0) (n := M + 1) (m := M) (by omega) (by omega) hs
  obtain ⟨m, h1, h2, h3, h4⟩ := few_first hC
  obtain ⟨s1, s2, s3⟩ := stops_sound h3
  have hmin : ∀ D, D.Sublist (List.range M) → Hits D ths → m ≤ D.length := fun D d1 d2 => by
    rcases Nat.lt_or_ge D.length m with q | q
    · exact absurd (h4 D.length (by omega) q) (stops_compl d1 (Nat.le_refl _) d2)
    · exact q
  have hCm : C.length = m := Nat.le_antisymm s2 (hmin C s1 s3)
  exact ⟨C, hC, s1, s3, fun D d1 d2 => by rw [hCm]; exact hmin D d1 d2, fun D d1 d2 d3 => stops_least List.pairwise_lt_range h3 hmin D d1 d2 (by omega)⟩
/-! ways apart -/
def Apt (w v : List Nat) : Prop := ∀ k ∈ w, k ∉ v
def aptB (w v : List Nat) : Bool := !w.any fun k => decide (k ∈ v)
theorem aptB_iff {w v : List Nat} : aptB w v = true ↔ Apt w v := by
  simp [aptB, Apt]
def faL (rec : List (List Nat) → Option (List (List Nat))) : List (List Nat) → Option (List (List Nat))
  | [] => none
  | w :: ws => match rec (ws.filter (aptB w)) with
    | some b => some (w :: b)
    | none => faL rec ws
def faR : Nat → List (List Nat) → Option (List (List Nat))
  | 0, _ => some []
  | m + 1, ths => faL (faR m) ths
theorem fa_sound : ∀ {m : Nat} {ths B : List (List Nat)}, faR m ths = some B → B.Sublist ths ∧ B.length = m ∧ B.Pairwise Apt
  | 0, ths, B, h => by
    cases h
    exact ⟨List.nil_sublist _, rfl, .nil⟩
  | m + 1, ths, B, h => by
    have key : ∀ {l B : List (List Nat)}, faL (faR m) l = some B → B.Sublist l ∧ B.length = m + 1 ∧ B.Pairwise Apt := by
      intro l
      induction l with
      | nil => intro B h; cases h
      | cons w ws ih =>
        intro B h
        unfold faL at h
        split at h
        next b hb =>
          cases h
          obtain ⟨h1, h2, h3⟩ := fa_sound hb
          refine ⟨(h1.trans List.filter_sublist).cons₂ w, by simp [h2], List.pairwise_cons.mpr ⟨fun v hv => ?_, h3⟩⟩
          exact aptB_iff.mp (List.mem_filter.mp (h1.subset hv)).2
        next =>
          obtain ⟨h1, h2, h3⟩ := ih h
          exact ⟨h1.cons w, h2, h3⟩
    exact key h
theorem filter_sub {D ws : List (List Nat)} {w : List Nat} (hs : D.Sublist ws) (ha : ∀ v ∈ D, Apt w v) : D.Sublist (ws.filter (aptB w)) := by
  have := hs.filter (aptB w)
  rw [List.filter_eq_self.mpr fun v hv => aptB_iff.mpr (ha v hv)] at this
  exact this
theorem fa_compl : ∀ {m : Nat} {ths D : List (List Nat)}, D.Sublist ths → D.length = m → D.Pairwise Apt → faR m ths ≠ none
  | 0, ths, D, _, _, _ => by simp [faR]
  | m + 1, ths, D, hs, hl, hp => by
    have key : ∀ {l D : List (List Nat)}, D.Sublist l → D.length = m + 1 → D.Pairwise Apt → faL (faR m) l ≠ none := by
      intro l
      induction l with
      | nil =>
        intro D hs hl _
        have : D = [] := List.sublist_nil.mp hs
        subst this
        simp at hl
      | cons w ws ih =>
        intro D hs hl hp
        unfold faL
        split
        next => simp
        next hn =>
          cases hs with
          | cons _ hs => exact ih hs hl hp
          | @cons_cons D' _ _ hs =>
            have p := List.pairwise_cons.mp hp
            exact absurd hn (fa_compl (filter_sub hs p.1) (by simpa using hl) p.2)
    exact key hs hl hp
theorem fa_least {r : List Nat → List Nat → Prop} : ∀ {m : Nat} {ths B : List (List Nat)}, ths.Pairwise r → faR m ths = some B → ∀ D, D.Sublist ths → D.length = m → D.Pairwise Apt → D = B ∨ Lx r B D
  | 0, ths, B, _, h, D, _, hl, _ => by
    cases h
    exact .inl (List.length_eq_zero_iff.mp hl)
  | m + 1, ths, B, pw, h, D, hs, hl, hp => by
    have key : ∀ {l B : List (List Nat)}, l.Pairwise r → faL (faR m) l = some B → ∀ D, D.Sublist l → D.length = m + 1 → D.Pairwise Apt → D = B ∨ Lx r B D := by
      intro l
      induction l with
      | nil => intro B _ h; cases h
      | cons w ws ih =>
        intro B pw h D hs hl hp
        have q := List.pairwise_cons.mp pw
        unfold faL at h
        split at h
        next b hb =>
          cases h
          cases hs with
          | cons _ hs =>
            cases D with
            | nil => simp at hl
            | cons v D => exact .inr (.head (q.1 v (hs.subset (by simp))))
          | @cons_cons D' _ _ hs =>
            have p := List.pairwise_cons.mp hp
            rcases fa_least (q.2.sublist List.filter_sublist) hb D' (filter_sub hs p.1) (by simpa using hl) p.2 with z | z
            · exact .inl (by rw [z])
            · exact .inr (.tail z)
        next hn =>
          cases hs with
          | cons _ hs => exact ih q.2 h D hs hl hp
          | @cons_cons D' _ _ hs =>
            have p := List.pairwise_cons.mp hp
            exact absurd hn (fa_compl (filter_sub hs p.1) (by simpa using hl) p.2)
    exact key pw h D hs hl hp
/-- ways apart are no more than openings that all of them have one of -/
theorem apart_le {C : List Nat} : ∀ {B : List (List Nat)}, B.Pairwise Apt → Hits C B → B.length ≤ C.length
  | [], _, _ => by simp
  | w :: B, hp, hh => by
    have p := List.pairwise_cons.mp hp
    obtain ⟨k, h1, h2⟩ := hh w (by simp)
    have ih := apart_le (C := C.erase k) p.2 fun v hv => by
      obtain ⟨j, g1, g2⟩ := hh v (by simp [hv])
      refine ⟨j, g1, (List.mem_erase_of_ne fun (e : j = k) => ?_).mpr g2⟩
      subst e
      exact p.1 v hv j h1 g1
    rw [List.length_erase_of_mem h2] at ih
    have := List.length_pos_of_mem h2
    simp
    omega
/-- as many ways apart as the fewest openings -/
theorem apart_many {R : Int} {E : List (Int × Int)} (hW : Within R E) (h0 : 0 ≤ R) (hE : ∀ e ∈ E, e.1 ≠ e.2) {room : Int} (hr : room ≠ 0) {n : Nat} {ws : List (List Nat)} (h : waysP E room n [0] = some ws) {C : List Nat} (hC : Hits C ws) (hmin : ∀ D, D.Sublist (List.range E.length) → Hits D ws → C.length ≤ D.length) :
    ∃ D : List (List Nat), D.Sublist ws ∧ D.length = C.length ∧ D.Pairwise Apt := by
  have nd : ((List.range (R.toNat + 1)).map fun (k : Nat) => (k : Int)).Nodup := List.pairwise_map.mpr (List.nodup_range.imp fun h z => h (by omega))
  have hin : ∀ x : Int, 0 ≤ x → x ≤ R → x ∈ (List.range (R.toNat + 1)).map fun (k : Nat) => (k : Int) := fun x h1 h2 => List.mem_map.mpr ⟨x.toNat, List.mem_range.mpr (by omega), by omega⟩
  obtain ⟨K, vs, k1, k2, k3, k4, k5, k6⟩ := menger hE (s := 0) (t := room) (Ne.symm hr) nd (fun e he => by
    obtain ⟨a, b, c, d⟩ := hW e he
    exact ⟨hin _ a b, hin _ c d⟩) (hin 0 (Int.le_refl _) h0)
  have hvw : ∀ v ∈ vs, v ∈ ws := fun v hv => (ways_char h v).mpr (k5 v hv)
  have hKs : K.Sublist (List.range E.length) := by
    have : ∀ {l : List Nat} {a n : Nat}, l.Pairwise (· < ·) → (∀ k ∈ l, a ≤ k ∧ k < a + n) → l.Sublist (List.range' a n) := by
      intro l a n
      induction n generalizing l a with
      | zero =>
        intro _ hb
        cases l with
        | nil => exact List.nil_sublist _
        | cons x l => have := hb x (by simp); omega
      | succ n ih =>
        intro pw hb
        rw [List.range'_succ]
        cases l with
        | nil => exact List.nil_sublist _
        | cons x l =>
          have p := List.pairwise_cons.mp pw
          by_cases e : x = a
          · subst e
            exact (ih p.2 fun k hk => by have := p.1 k hk; have := hb k (by simp [hk]); omega).cons₂ _
          · have hx := hb x (by simp)
            exact (ih pw fun k hk => by
              have h1 := hb k hk
              rcases List.mem_cons.mp hk with rfl | hk
              · omega
              · have := p.1 k hk
                omega).cons a
    rw [List.range_eq_range']
    exact this k1 fun k hk => by have := k3 k hk; omega
  have hKh : Hits K ws := fun w hw => by
    obtain ⟨p, p1, p2, p3⟩ := (ways_char h w).mp hw
    exact k4 w p p1 p3
  have l1 := hmin K hKs hKh
  have l2 := apart_le k6 fun v hv => hC v (hvw v hv)
  -- the ways of vs, in their order
  have ne : ∀ v ∈ ws, v ≠ [] := fun v hv => by
    rintro rfl
    obtain ⟨p, p1, p2, p3⟩ := (ways_char h []).mp hv
    have : p = [] := p1
    subst this
    simp at p3
    exact hr p3.symm
  have ndv : vs.Nodup := by
    have : ∀ {l : List (List Nat)}, l.Pairwise Apt → (∀ v ∈ l, v ≠ []) → l.Nodup := by
      intro l hp hn
      refine List.Pairwise.imp_of_mem (fun {a b} ha hb (q : Apt a b) z => ?_) hp
      subst z
      cases a with
      | nil => exact hn [] ha rfl
      | cons k a => exact q k (by simp) (by simp)
    exact this k6 fun v hv => ne v (hvw v hv)
  have ndw : ws.Nodup := (ways_pw h).imp fun q z => by
    subst z
    exact List.lt_irrefl _ q
  have hperm : (ws.filter fun w => decide (w ∈ vs)).Perm vs := (List.perm_ext_iff_of_nodup (ndw.filter _) ndv).mpr fun w => by
    rw [List.mem_filter]
    simp only [decide_eq_true_eq]
    exact ⟨fun z => z.2, fun z => ⟨hvw w z, z⟩⟩
  have sym : ∀ {a b : List Nat}, Apt a b → Apt b a := fun q k h1 h2 => q k h2 h1
  refine ⟨_, List.filter_sublist, by rw [hperm.length_eq]; omega, ?_⟩
  exact (hperm.pairwise_iff sym).mpr k6
end Hg
end
section
set_option linter.all false
set_option maxHeartbeats 1000000
namespace Ho
open PySem D
abbrev Op := Int × Int × Option Str
def zT : Option Str → T
  | none => .none
  | some x => .str x
def opT (o : Op) : T := .tuple [.int o.1, .int o.2.1, zT o.2.2]
def houseT (R : Int) (os : List Op) : T := .tuple [.int R, .tuple (os.map opT)]
def namesT (ns : List Str) : T := .tuple (ns.map .str)
def free (ns : List Str) (o : Op) : Bool := match o.2.2 with
  | none => true
  | some x => decide (x ∈ ns)
def edge (o : Op) : Int × Int := (o.1, o.2.1)
def oT : Option Int → T
  | some t => .int t
  | none => .none
theorem oEq_int (a b : Int) : oEq (.int a) (.int b) = some (.bool (decide (a = b))) := by
  simp [oEq, okT_int, PyData.eqv, Bool.beq_eq_decide_eq]
theorem seq_nx {a b : Fs} {ε ε' : Ev} (h : a ε = some (.nx ε')) : seq a b ε = b ε' := by
  simp only [seq, h, Option.bind_some]
theorem beyond_eq (o : Op) (h : Int) : d_beyond [opT o, .int h] = some (oT (Hg.adj (edge o) h)) := by
  obtain ⟨a, b, z⟩ := o
  by_cases h1 : a = h
  · simp [d_beyond, b_beyond, opT, runF, seq, iff, tstB, tstL, andT, orT, notT, cstT, ofT, op1, op2, opN, args, cst, nm, nmV, rtn, skip, asg, asgN, asgT, par, mkTup, mkLst, oIsN, oNotN, oIx, atZ, ixOf, gNm, gTu, gAll, itSeq, comp, capEnv, oEq_int, Hg.adj, edge, oT, h1]
  · by_cases h2 : b = h
    · simp [d_beyond, b_beyond, opT, runF, seq, iff, tstB, tstL, andT, orT, notT, cstT, ofT, op1, op2, opN, args, cst, nm, nmV, rtn, skip, asg, asgN, asgT, par, mkTup, mkLst, oIsN, oNotN, oIx, atZ, ixOf, gNm, gTu, gAll, itSeq, comp, capEnv, oEq_int, Hg.adj, edge, oT, h1, h2]
    · simp [d_beyond, b_beyond, opT, runF, seq, iff, tstB, tstL, andT, orT, notT, cstT, ofT, op1, op2, opN, args, cst, nm, nmV, rtn, skip, asg, asgN, asgT, par, mkTup, mkLst, oIsN, oNotN, oIx, atZ, ixOf, gNm, gTu, gAll, itSeq, comp, capEnv, oEq_int, Hg.adj, edge, oT, h1, h2]
def StrsOk (ns : List Str) : Prop := ∀ x ∈ ns, (PyData.str x).canLay0 = true
def OpsOk (os : List Op) : Prop := ∀ o ∈ os, ∀ x, o.2.2 = some x → (PyData.str x).canLay0 = true
/-! ### the search -/
def kv (r : List Int) : List (Key × T) := r.map fun x => (Sum.inl x, .bool true)
def bIn : Fs := seq (asg 7 (opN d_beyond [(nmV 6), (nmV 5)]))
    (iff (andT (tstB (op1 oNotN (nm 7))) (tstB (dIn true (nm 7) 3))) (seq (dPut 3 (nm 7) (cst (.bool true)))
    (app 4 (nmV 7))) skip)
def envU (h n u : T) (r w : List Int) (here : Option Sl) (j6 j7 : Option Sl) : Ev := [some (.imm h), some (.imm n), some (.imm u), some (.dic (kv r)), some (.own (w.map .int)), here, j6, j7]
def bOut : Fs := seq (pop 5 4)
    (for_ (itSeq (nmV 2)) (gNm 6)
    bIn)
def freeEdges (ns : List Str) (os : List Op) : List (Int × Int) := (os.filter (free ns)).map edge
/-! ### the zones -/
def zonesL (os : List Op) : List Str := sortS (dedup (os.filterMap (·.2.2)))
end Ho
end
section
set_option linter.all false
set_option maxHeartbeats 1000000
namespace Ho
open PySem D
/-! ### the ways -/
def wT (w : List Nat) : T := .tuple (w.map fun (k : Nat) => PyData.int (k : Int))
def bW (rec : List T → Option T) : Fs := (seq (asg 6 (opN d_beyond [(nmV 5), (op2 oIx (nm 2) (op1 oNeg (cst (.int 1))))]))
    (iff (andT (tstB (op1 oNotN (nm 6))) (tstB (op2 (oIn true) (nm 6) (nm 2)))) (ext 3 (comp 1 [4] (itSeq (opN rec [(nmV 0), (nmV 1), (op2 oAdd (nm 2) (mkTup [(nmV 6)]))])) (gNm 0) (cstT true) (op2 oAdd (mkTup [(nmV 1)]) (nm 0)))) skip))
def envW (h : T) (room : Int) (pl : List Int) (acc : List (List Nat)) (j4 j5 j6 : Option Sl) : Ev := [some (.imm h), some (.imm (.int room)), some (.imm (.tuple (pl.map .int))), some (.own (acc.map wT)), j4, j5, j6]
theorem comp_ext (k : Nat) : ∀ (ws : List (List Nat)) (j : Option Sl), (∀ w ∈ ws, w.length ≤ 100) → compL (gNm 0) (cstT true) (op2 oAdd (mkTup [(nmV 1)]) (nm 0)) (ws.map wT) [j, some (.imm (.int k))] = some ((ws.map fun w => k :: w).map wT)
  | [], j, _ => rfl
  | w :: ws, j, h => by
    have ih := comp_ext k ws (some (.imm (wT w))) fun w hw => h w (by simp [hw])
    have hw := h w (by simp)
    have e1 : op2 oAdd (mkTup [(nmV 1)]) (nm 0) [some (.imm (wT w)), some (.imm (.int k))] = some (wT (k :: w)) := by
      have : 1 + w.length ≤ 16777216 := by omega
      simp [op2, mkTup, args, nmV, nm, big, wT, oAdd, this]
    have e0 : gNm 0 (wT w) [j, some (.imm (.int k))] = some [some (.imm (wT w)), some (.imm (.int k))] := rfl
    simp only [List.map_cons, compL, e0, Option.bind_some, cstT, if_true, e1, ih, Option.map_some]
theorem last_ix {pl : List Int} {h : Int} (hp : pl.getLast? = some h) : atZ (pl.map PyData.int) (-1) = some (.int h) := by
  have hne : pl ≠ [] := fun z => by subst z; cases hp
  have hl := List.length_pos_iff.mpr hne
  have hx : ixOf (pl.map PyData.int).length (-1) = some (pl.length - 1) := by
    unfold ixOf
    rw [if_neg (by decide), List.length_map, if_pos (by omega)]
    congr 1
    omega
  unfold atZ
  rw [hx]
  simp only [Option.bind_some, List.getElem?_map]
  rw [← List.getLast?_eq_getElem?, hp]
  rfl
theorem w_step {rec : List T → Option T} {recP : List Int → Option (List (List Nat))} (hT : T) (room : Int) (pl : List Int) (h : Int) (hp : pl.getLast? = some h) (hpl : pl.length ≤ 100)
    (o : Op) (k : Nat) (acc : List (List Nat)) (j6 : Option Sl) (vs : List (List Nat))
    (hv : (match Hg.adj (edge o) h with | some t => if t ∈ pl then some [] else (recP (pl ++ [t])).map fun ws => ws.map fun w => k :: w | none => some []) = some vs)
    (hr : ∀ t ws, t ∉ pl → recP (pl ++ [t]) = some ws → ws.length ≤ vs.length → rec [hT, .int room, .tuple ((pl ++ [t]).map .int)] = some (.list (ws.map wT)) ∧ ∀ w ∈ ws, w.length ≤ 100) (hz : acc.length + vs.length ≤ 16777216) :
    ∃ j6', bW rec (envW hT room pl acc (some (.imm (.int k))) (some (.imm (opT o))) j6) = some (.nx (envW hT room pl (acc ++ vs) (some (.imm (.int k))) (some (.imm (opT o))) j6')) := by
  have hb := beyond_eq o h
  have hi := last_ix hp
  have e1 : opN d_beyond [(nmV 5), (op2 oIx (nm 2) (op1 oNeg (cst (.int 1))))] (envW hT room pl acc (some (.imm (.int k))) (some (.imm (opT o))) j6) = some (oT (Hg.adj (edge o) h)) := by
    have : op2 oIx (nm 2) (op1 oNeg (cst (.int 1))) (envW hT room pl acc (some (.imm (.int k))) (some (.imm (opT o))) j6) = some (.int h) := by
      simp only [op2, nm, envW, List.getElem?_cons_succ, List.getElem?_cons_zero, Option.bind_some, op1, cst, oNeg, oIx]
      exact hi
    have n5 : nmV 5 (envW hT room pl acc (some (.imm (.int k))) (some (.imm (opT o))) j6) = some (opT o) := rfl
    simp only [opN, args, this, n5, Option.bind_some, Option.map_some]
    exact hb
  have e2 : asg 6 (opN d_beyond [(nmV 5), (op2 oIx (nm 2) (op1 oNeg (cst (.int 1))))]) (envW hT room pl acc (some (.imm (.int k))) (some (.imm (opT o))) j6) = some (.nx (envW hT room pl acc (some (.imm (.int k))) (some (.imm (opT o))) (some (.imm (oT (Hg.adj (edge o) h)))))) := by
    simp only [asg, e1, Option.map_some]
    rfl
  refine ⟨some (.imm (oT (Hg.adj (edge o) h))), ?_⟩
  unfold bW
  rw [seq_nx e2]
  cases ha : Hg.adj (edge o) h with
  | none =>
    rw [ha] at hv
    cases hv
    simp [iff, andT, tstB, op1, oNotN, nm, envW, oT, skip]
  | some t =>
    rw [ha] at hv
    by_cases hm : t ∈ pl
    · simp only [hm, if_true] at hv
      cases hv
      simp [iff, andT, tstB, op1, op2, oNotN, nm, envW, oT, skip, oIn_int, hm]
    · simp only [hm, if_false, Option.map_eq_some_iff] at hv
      obtain ⟨ws, hws, rfl⟩ := hv
      simp only [List.length_map] at hz hr
      obtain ⟨h1, h2⟩ := hr t ws hm hws (Nat.le_refl _)
      have c1 : andT (tstB (op1 oNotN (nm 6))) (tstB (op2 (oIn true) (nm 6) (nm 2))) (envW hT room pl acc (some (.imm (.int k))) (some (.imm (opT o))) (some (.imm (oT (some t))))) = some true := by
        simp [andT, tstB, op1, op2, oNotN, nm, envW, oT, oIn_int, hm]
      have a1 : op2 oAdd (nm 2) (mkTup [(nmV 6)]) (envW hT room pl acc (some (.imm (.int k))) (some (.imm (opT o))) (some (.imm (oT (some t))))) = some (.tuple ((pl ++ [t]).map .int)) := by
        have : pl.length + 1 ≤ 16777216 := by omega
        simp [op2, nm, nmV, envW, mkTup, args, big, oT, oAdd, this]
      have it1 : itSeq (opN rec [(nmV 0), (nmV 1), (op2 oAdd (nm 2) (mkTup [(nmV 6)]))]) (envW hT room pl acc (some (.imm (.int k))) (some (.imm (opT o))) (some (.imm (oT (some t))))) = some (ws.map wT) := by
        have n0 : nmV 0 (envW hT room pl acc (some (.imm (.int k))) (some (.imm (opT o))) (some (.imm (oT (some t))))) = some hT := rfl
        have n1 : nmV 1 (envW hT room pl acc (some (.imm (.int k))) (some (.imm (opT o))) (some (.imm (oT (some t))))) = some (.int room) := rfl
        simp only [itSeq, opN, args, a1, n0, n1, Option.bind_some, Option.map_some, h1]
      have cp : comp 1 [4] (itSeq (opN rec [(nmV 0), (nmV 1), (op2 oAdd (nm 2) (mkTup [(nmV 6)]))])) (gNm 0) (cstT true) (op2 oAdd (mkTup [(nmV 1)]) (nm 0)) (envW hT room pl acc (some (.imm (.int k))) (some (.imm (opT o))) (some (.imm (oT (some t))))) = some (.list ((ws.map fun w => k :: w).map wT)) := by
        simp only [comp, it1, Option.bind_some, List.length_map]
        rw [if_pos (by unfold big; omega)]
        have : capEnv 1 [4] (envW hT room pl acc (some (.imm (.int k))) (some (.imm (opT o))) (some (.imm (oT (some t))))) = [none, some (.imm (.int k))] := rfl
        rw [this, comp_ext k ws none h2]
        rfl
      simp only [iff, c1, Option.bind_some, if_true, ext, cp]
      simp only [envW, List.getElem?_cons_succ, List.getElem?_cons_zero, List.length_map]
      rw [if_pos (by unfold big; omega)]
      simp
theorem ext_sim {rec : List T → Option T} {recP : List Int → Option (List (List Nat))} (hT : T) (room : Int) (pl : List Int) (h : Int) (hp : pl.getLast? = some h) (hpl : pl.length ≤ 100) (N : Nat) (hN : N ≤ 16777216)
    (hr : ∀ t ws, t ∉ pl → recP (pl ++ [t]) = some ws → ws.length ≤ N → rec [hT, .int room, .tuple ((pl ++ [t]).map .int)] = some (.list (ws.map wT)) ∧ ∀ w ∈ ws, w.length ≤ 100) :
    ∀ (os : List Op) (k : Nat) (acc vs : List (List Nat)) (j4 j5 j6 : Option Sl), Hg.exts recP pl h k (os.map edge) = some vs → acc.length + vs.length ≤ N →
      ∃ j4' j5' j6', forL (gTu [(gNm 4), (gNm 5)]) (bW rec) (((os.map opT).zipIdx k).map fun p => .tuple [.int p.2, p.1]) (envW hT room pl acc j4 j5 j6) = some (.nx (envW hT room pl (acc ++ vs) j4' j5' j6'))
  | [], k, acc, vs, j4, j5, j6, e, _ => by
    cases e
    exact ⟨j4, j5, j6, by simp [forL]⟩
  | o :: os, k, acc, vs, j4, j5, j6, e, hz => by
    have key : ∃ v1 v2, (match Hg.adj (edge o) h with | some t => if t ∈ pl then some [] else (recP (pl ++ [t])).map fun ws => ws.map fun w => k :: w | none => some []) = some v1 ∧ Hg.exts recP pl h (k + 1) (os.map edge) = some v2 ∧ vs = v1 ++ v2 := by
      rw [List.map_cons] at e
      unfold Hg.exts at e
      cases ha : Hg.adj (edge o) h with
      | none =>
        rw [ha] at e
        exact ⟨[], vs, rfl, e, rfl⟩
      | some t =>
        rw [ha] at e
        by_cases hm : t ∈ pl
        · simp only [hm, if_true] at e ⊢
          exact ⟨[], vs, rfl, e, rfl⟩
        · simp only [hm, if_false, Option.bind_eq_some_iff, Option.map_eq_some_iff] at e ⊢
          obtain ⟨ws, h1, v2, h2, rfl⟩ := e
          exact ⟨_, v2, ⟨ws, h1, rfl⟩, h2, rfl⟩
    obtain ⟨v1, v2, h1, h2, rfl⟩ := key
    rw [List.length_append] at hz
    obtain ⟨j6', hs⟩ := w_step (rec := rec) (recP := recP) hT room pl h hp hpl o k acc j6 v1 h1 (fun t ws a b c => hr t ws a b (by omega)) (by omega)
    obtain ⟨a, b, c, ih⟩ := ext_sim (rec := rec) (recP := recP) hT room pl h hp hpl N hN hr os (k + 1) (acc ++ v1) v2 (some (.imm (.int k))) (some (.imm (opT o))) j6' h2 (by rw [List.length_append]; omega)
    refine ⟨a, b, c, ?_⟩
    have e0 : gTu [(gNm 4), (gNm 5)] (.tuple [.int k, opT o]) (envW hT room pl acc j4 j5 j6) = some (envW hT room pl acc (some (.imm (.int k))) (some (.imm (opT o))) j6) := rfl
    rw [List.map_cons, List.zipIdx_cons, List.map_cons]
    simp only [forL, e0, Option.bind_some, hs]
    rw [ih, List.append_assoc]
theorem ways_lens {E : List (Int × Int)} {room : Int} : ∀ (n : Nat) (pl : List Int) (ws : List (List Nat)), Hg.waysP E room n pl = some ws → ∀ w ∈ ws, w.length ≤ n := by
  have ex : ∀ (n : Nat) (rec : List Int → Option (List (List Nat))) (pl : List Int) (h : Int), (∀ q ws, rec q = some ws → ∀ w ∈ ws, w.length ≤ n) → ∀ (E : List (Int × Int)) (k : Nat) (ws : List (List Nat)), Hg.exts rec pl h k E = some ws → ∀ w ∈ ws, w.length ≤ n + 1 := by
    intro n rec pl h hr E
    induction E with
    | nil =>
      intro k ws e w hw
      cases e
      cases hw
    | cons e0 E ih =>
      intro k ws e w hw
      unfold Hg.exts at e
      split at e
      · split at e
        · exact ih _ _ e w hw
        · simp only [Option.bind_eq_some_iff, Option.map_eq_some_iff] at e
          obtain ⟨us, h1, v2, h2, rfl⟩ := e
          rcases List.mem_append.mp hw with q | q
          · obtain ⟨u, hu, rfl⟩ := List.mem_map.mp q
            have := hr _ _ h1 u hu
            simp
            omega
          · exact ih _ _ h2 w q
      · exact ih _ _ e w hw
  intro n
  induction n with
  | zero =>
    intro pl ws e
    cases e
  | succ n ih =>
    intro pl ws e w hw
    unfold Hg.waysP at e
    split at e
    · cases e
    · split at e
      · cases e
        simp at hw
        subst hw
        simp
      · exact ex n _ _ _ (fun q ws e => ih q ws e) _ _ _ e w hw
theorem ways_on_eq {R : Int} {os : List Op} {room : Int} : ∀ (n : Nat) (pl : List Int) (ws : List (List Nat)), n + pl.length ≤ 90 → Hg.waysP (os.map edge) room n pl = some ws → ws.length ≤ 16777216 →
    d_ways_on n [houseT R os, .int room, .tuple (pl.map .int)] = some (.list (ws.map wT))
  | 0, pl, ws, hn, e, _ => by cases e
  | n + 1, pl, ws, hn, e, hz => by
    have e0 : d_ways_on (n + 1) [houseT R os, .int room, .tuple (pl.map .int)] = (b_ways_on (d_ways_on n) [some (.imm (houseT R os)), some (.imm (.int room)), some (.imm (.tuple (pl.map .int))), none, none, none, none]).bind fun o => match o with | .rt t => some t | .nx _ => some .none | _ => none := rfl
    rw [e0]
    unfold Hg.waysP at e
    cases hp : pl.getLast? with
    | none =>
      rw [hp] at e
      cases e
    | some h =>
      rw [hp] at e
      dsimp only at e
      have hi := last_ix hp
      have c0 : tstB (op2 oEq (op2 oIx (nm 2) (op1 oNeg (cst (.int 1)))) (nm 1)) [some (.imm (houseT R os)), some (.imm (.int room)), some (.imm (.tuple (pl.map .int))), none, none, none, none] = some (decide (h = room)) := by
        simp only [tstB, op2, nm, List.getElem?_cons_succ, List.getElem?_cons_zero, Option.bind_some, op1, cst, oNeg, oIx, hi, oEq_int]
      unfold b_ways_on
      by_cases hr : h = room
      · rw [if_pos hr] at e
        cases e
        simp only [seq, iff, c0, hr, Option.bind_some, decide_true, if_true, rtn, mkLst, mkTup, args, Option.map_some]
        simp [big, wT]
      · rw [if_neg hr] at e
        have s1 : iff (tstB (op2 oEq (op2 oIx (nm 2) (op1 oNeg (cst (.int 1)))) (nm 1))) (rtn (mkLst [(mkTup [])])) skip [some (.imm (houseT R os)), some (.imm (.int room)), some (.imm (.tuple (pl.map .int))), none, none, none, none] = some (.nx [some (.imm (houseT R os)), some (.imm (.int room)), some (.imm (.tuple (pl.map .int))), none, none, none, none]) := by
          simp only [iff, c0, hr, Option.bind_some, decide_false, Bool.false_eq_true, if_false, skip]
        have s2 : asgN 3 (mkLst []) [some (.imm (houseT R os)), some (.imm (.int room)), some (.imm (.tuple (pl.map .int))), none, none, none, none] = some (.nx (envW (houseT R os) room pl [] none none none)) := by
          simp [asgN, mkLst, args, big, envW]
        obtain ⟨a, b, c, hs⟩ := ext_sim (rec := d_ways_on n) (recP := Hg.waysP (os.map edge) room n) (houseT R os) room pl h hp (by omega) ws.length hz
          (fun t ws' _ h2 h3 => ⟨ways_on_eq n (pl ++ [t]) ws' (by simp; omega) h2 (by omega), fun w hw => Nat.le_trans (ways_lens n _ _ h2 w hw) (by omega)⟩) os 0 [] ws none none none e (by simp)
        have it : itEnum (itTup (op2 oIx (nm 0) (cst (.int 1)))) (envW (houseT R os) room pl [] none none none) = some (((os.map opT).zipIdx 0).map fun p => .tuple [.int p.2, p.1]) := by
          simp [itEnum, itTup, op2, nm, envW, houseT, cst, oIx, atZ, ixOf, enum]
        have s3 : for_ (itEnum (itTup (op2 oIx (nm 0) (cst (.int 1))))) (gTu [(gNm 4), (gNm 5)]) (bW (d_ways_on n)) (envW (houseT R os) room pl [] none none none) = some (.nx (envW (houseT R os) room pl ws a b c)) := by
          simp only [for_, it, Option.bind_some]
          exact hs
        rw [seq_nx s1, seq_nx s2]
        have s4 : seq (for_ (itEnum (itTup (op2 oIx (nm 0) (cst (.int 1))))) (gTu [(gNm 4), (gNm 5)]) (bW (d_ways_on n))) (rtn (nm 3)) (envW (houseT R os) room pl [] none none none) = some (.rt (.list (ws.map wT))) := by
          rw [seq_nx s3]
          simp [rtn, nm, envW]
        have s5 := congrArg (fun x : Option Out => x.bind fun o => match o with | .rt t => some t | .nx _ => some .none | _ => none) s4
        exact s5
theorem ways_eq {R : Int} {os : List Op} {room : Int} {ws : List (List Nat)} (h : Hg.waysP (os.map edge) room 20 [0] = some ws) (hz : ws.length ≤ 16777216) : d_ways [houseT R os, .int room] = some (.tuple (ws.map wT)) := by
  have h1 := ways_on_eq (R := R) 20 [0] ws (by decide) h hz
  have e0 : d_ways [houseT R os, .int room] = (b_ways [some (.imm (houseT R os)), some (.imm (.int room))]).bind fun o => match o with | .rt t => some t | .nx _ => some .none | _ => none := rfl
  rw [e0]
  have a1 : args [(nmV 0), (nmV 1), (mkTup [(cst (.int 0))])] [some (.imm (houseT R os)), some (.imm (.int room))] = some [houseT R os, .int room, .tuple ([0].map .int)] := by
    simp [args, nmV, mkTup, cst, big]
  simp only [b_ways, rtn, opN, args] at a1 ⊢
  rw [a1]
  simp only [Option.bind_some, h1, Option.map_some, oTuple]
end Ho
end
section
set_option linter.all false
set_option maxHeartbeats 2000000
namespace Ho
open PySem D
/-! ### the drawn house -/
def scriptT (ns : List Int) : T := .list (ns.map .int)
theorem cell_eq (ns : List Int) (k : Nat) : d_l_cell_at [scriptT ns, .int k] = some (.int (ns.getD k 0)) := by
  by_cases h : k < ns.length
  · have h' : (k : Int) < (ns.length : Int) := by omega
    simp [d_l_cell_at, b_l_cell_at, scriptT, runF, seq, iff, tstB, tstL, andT, orT, notT, cstT, ofT, op1, op2, opN, args, cst, nm, nmV, rtn, skip, asg, asgN, asgT, par, mkTup, mkLst, oIsN, oNotN, oIx, atZ, ixOf, gNm, gTu, gAll, itSeq, comp, capEnv, oAdd, oSub, oMul, oDiv, oMod, oNeg, oLen, oMin, oMax, oTuple, oList, oInt, oLt, oLe, oGt, oGe, big, h, h', List.getD]
  · have h' : ¬ (k : Int) < (ns.length : Int) := by omega
    simp [d_l_cell_at, b_l_cell_at, scriptT, runF, seq, iff, tstB, tstL, andT, orT, notT, cstT, ofT, op1, op2, opN, args, cst, nm, nmV, rtn, skip, asg, asgN, asgT, par, mkTup, mkLst, oIsN, oNotN, oIx, atZ, ixOf, gNm, gTu, gAll, itSeq, comp, capEnv, oAdd, oSub, oMul, oDiv, oMod, oNeg, oLen, oMin, oMax, oTuple, oList, oInt, oLt, oLe, oGt, oGe, big, h, h', List.getD]
theorem mul_ok {i j : Int} (h : -(2 ^ 64) < j ∧ j < 2 ^ 64) : oMul (.int i) (.int j) = some (.int (i * j)) := by
  unfold oMul mulOk
  simp only [decide_eq_true h.1, decide_eq_true h.2, Bool.and_self, Bool.or_true, if_true]
theorem mod_ok {i j : Int} (h : 0 < j) : oMod (.int i) (.int j) = some (.int (i % j)) := if_pos h
theorem div_ok {i j : Int} (h : 0 < j ∧ j < 1073741824) : oDiv (.int i) (.int j) = some (.int (i / j)) := if_pos h
theorem add_ok {i j : Int} : oAdd (.int i) (.int j) = some (.int (i + j)) := rfl
theorem mixed_eq (ns : List Int) (k : Nat) : ∃ m : Int, 0 ≤ m ∧ d_l_mixed [scriptT ns, .int k] = some (.int m) := by
  have hc := cell_eq ns k
  have hd : 0 ≤ (ns.getD k 0 + 7919 * (k : Int) + 1) * 48271 % 2147483647 ∧ (ns.getD k 0 + 7919 * (k : Int) + 1) * 48271 % 2147483647 < 2147483647 := ⟨Int.emod_nonneg _ (by decide), Int.emod_lt_of_pos _ (by decide)⟩
  generalize hx : (ns.getD k 0 + 7919 * (k : Int) + 1) * 48271 % 2147483647 = d at hd
  refine ⟨(d * d + 7 * d + k) % 2147483629, Int.emod_nonneg _ (by decide), ?_⟩
  have e0 : d_l_mixed [scriptT ns, .int k] = (b_l_mixed [some (.imm (scriptT ns)), some (.imm (.int k)), none]).bind fun o => match o with | .rt t => some t | .nx _ => some .none | _ => none := rfl
  have m1 : oMul (.int 7919) (.int k) = some (.int (7919 * k)) := by
    unfold oMul mulOk
    simp
  have n0 : nmV 0 [some (.imm (scriptT ns)), some (.imm (.int k)), none] = some (scriptT ns) := rfl
  have n1 : nmV 1 [some (.imm (scriptT ns)), some (.imm (.int k)), none] = some (.int k) := rfl
  have n1' : nm 1 [some (.imm (scriptT ns)), some (.imm (.int k)), none] = some (.int k) := rfl
  have s1 : asg 2 (op2 oMod (op2 oMul (op2 oAdd (op2 oAdd (opN d_l_cell_at [(nmV 0), (nmV 1)]) (op2 oMul (cst (.int 7919)) (nm 1))) (cst (.int 1))) (cst (.int 48271))) (cst (.int 2147483647))) [some (.imm (scriptT ns)), some (.imm (.int k)), none] = some (.nx [some (.imm (scriptT ns)), some (.imm (.int k)), some (.imm (.int d))]) := by
    simp only [asg, op2, opN, args, n0, n1, n1', Option.bind_some, Option.map_some, hc, cst, m1, add_ok, mul_ok (i := ns.getD k 0 + 7919 * (k : Int) + 1) (j := 48271) (by decide), mod_ok (j := 2147483647) (by decide), hx]
    rfl
  have m2 : oMul (.int d) (.int d) = some (.int (d * d)) := mul_ok (by omega)
  have m3 : oMul (.int 7) (.int d) = some (.int (7 * d)) := mul_ok (by omega)
  rw [e0]
  unfold b_l_mixed
  rw [seq_nx s1]
  have q2 : nm 2 [some (.imm (scriptT ns)), some (.imm (.int k)), some (.imm (.int d))] = some (.int d) := rfl
  have q1 : nm 1 [some (.imm (scriptT ns)), some (.imm (.int k)), some (.imm (.int d))] = some (.int k) := rfl
  simp only [rtn, op2, q2, q1, Option.bind_some, Option.map_some, cst, m2, m3, add_ok, mod_ok (j := 2147483629) (by decide)]
theorem drawn_eq (n k : Int) (hk : -(2 ^ 64) < k ∧ k < 2 ^ 64) : ∃ m : Int, 0 ≤ m ∧ d_l_drawn [.int n, .int k] = some (.int m) := by
  have hd : 0 ≤ (n + 104729 * k + 17) * 69621 % 2147483647 ∧ (n + 104729 * k + 17) * 69621 % 2147483647 < 2147483647 := ⟨Int.emod_nonneg _ (by decide), Int.emod_lt_of_pos _ (by decide)⟩
  generalize hx : (n + 104729 * k + 17) * 69621 % 2147483647 = d at hd
  refine ⟨(d * d + 3 * d + k) % 2147483629, Int.emod_nonneg _ (by decide), ?_⟩
  have e0 : d_l_drawn [.int n, .int k] = (b_l_drawn [some (.imm (.int n)), some (.imm (.int k)), none]).bind fun o => match o with | .rt t => some t | .nx _ => some .none | _ => none := rfl
  have m1 : oMul (.int 104729) (.int k) = some (.int (104729 * k)) := mul_ok hk
  have n0 : nm 0 [some (.imm (.int n)), some (.imm (.int k)), none] = some (.int n) := rfl
  have n1 : nm 1 [some (.imm (.int n)), some (.imm (.int k)), none] = some (.int k) := rfl
  have s1 : asg 2 (op2 oMod (op2 oMul (op2 oAdd (op2 oAdd (nm 0) (op2 oMul (cst (.int 104729)) (nm 1))) (cst (.int 17))) (cst (.int 69621))) (cst (.int 2147483647))) [some (.imm (.int n)), some (.imm (.int k)), none] = some (.nx [some (.imm (.int n)), some (.imm (.int k)), some (.imm (.int d))]) := by
    simp only [asg, op2, n0, n1, Option.bind_some, Option.map_some, cst, m1, add_ok, mul_ok (i := n + 104729 * k + 17) (j := 69621) (by decide), mod_ok (j := 2147483647) (by decide), hx]
    rfl
  have m2 : oMul (.int d) (.int d) = some (.int (d * d)) := mul_ok (by omega)
  have m3 : oMul (.int 3) (.int d) = some (.int (3 * d)) := mul_ok (by omega)
  rw [e0]
  unfold b_l_drawn
  rw [seq_nx s1]
  have q2 : nm 2 [some (.imm (.int n)), some (.imm (.int k)), some (.imm (.int d))] = some (.int d) := rfl
  have q1 : nm 1 [some (.imm (.int n)), some (.imm (.int k)), some (.imm (.int d))] = some (.int k) := rfl
  simp only [rtn, op2, q2, q1, Option.bind_some, Option.map_some, cst, m2, m3, add_ok, mod_ok (j := 2147483629) (by decide)]
/-- what a drawn house keeps to -/
def names5 : List Str := ["a", "b", "back", "hall", "win"]
def OpOk (R : Int) (o : Op) : Prop := 0 ≤ o.1 ∧ o.1 < o.2.1 ∧ o.2.1 ≤ R ∧ ∀ x, o.2.2 = some x → x ∈ names5
structure Drawn (R : Int) (os : List Op) : Prop where
  r1 : 1 ≤ R
  r7 : R ≤ 7
  len : os.length ≤ 10
  ok : ∀ o ∈ os, OpOk R o
def bH : Fs := (seq (asg 4 (op2 oDiv (opN d_l_drawn [(nmV 0), (op2 oAdd (cst (.int 50)) (nm 3))]) (cst (.int 4))))
    (seq (asg 5 (op2 oMod (nm 4) (op2 oAdd (nm 1) (cst (.int 1)))))
    (seq (asg 6 (op2 oMod (op2 oAdd (op2 oAdd (nm 5) (cst (.int 1))) (op2 oMod (op2 oDiv (nm 4) (cst (.int 8))) (nm 1))) (op2 oAdd (nm 1) (cst (.int 1)))))
    (seq (asg 7 (op2 oIx (mkTup [(cst .none), (cst .none), (cst (.str "a")), (cst (.str "b")), (cst (.str "back")), (cst (.str "hall")), (cst (.str "win"))]) (op2 oMod (op2 oDiv (nm 4) (cst (.int 64))) (cst (.int 7)))))
    (asg 2 (op2 oAdd (nm 2) (mkTup [(mkTup [(opN oMin [(nm 5), (nm 6)]), (opN oMax [(nm 5), (nm 6)]), (nmV 7)])])))))))
def envH (n R : Int) (os : List Op) (j3 j4 j5 j6 j7 : Option Sl) : Ev := [some (.imm (.int n)), some (.imm (.int R)), some (.imm (.tuple (os.map opT))), j3, j4, j5, j6, j7]
theorem zone_ix (i : Int) (h0 : 0 ≤ i) (h7 : i < 7) (ε : Ev) : ∃ z : Option Str, (mkTup [(cst .none), (cst .none), (cst (.str "a")), (cst (.str "b")), (cst (.str "back")), (cst (.str "hall")), (cst (.str "win"))] ε).bind (fun t => oIx t (.int i)) = some (zT z) ∧ ∀ x, z = some x → x ∈ names5 := by
  have hc : i = 0 ∨ i = 1 ∨ i = 2 ∨ i = 3 ∨ i = 4 ∨ i = 5 ∨ i = 6 := by omega
  have e : mkTup [(cst .none), (cst .none), (cst (.str "a")), (cst (.str "b")), (cst (.str "back")), (cst (.str "hall")), (cst (.str "win"))] ε = some (.tuple [.none, .none, .str "a", .str "b", .str "back", .str "hall", .str "win"]) := by
    simp [mkTup, args, cst, big]
  rw [e]
  rcases hc with rfl | rfl | rfl | rfl | rfl | rfl | rfl
  · exact ⟨none, rfl, fun x h => by cases h⟩
  · exact ⟨none, rfl, fun x h => by cases h⟩
  · exact ⟨some "a", rfl, fun x h => by cases h; simp [names5]⟩
  · exact ⟨some "b", rfl, fun x h => by cases h; simp [names5]⟩
  · exact ⟨some "back", rfl, fun x h => by cases h; simp [names5]⟩
  · exact ⟨some "hall", rfl, fun x h => by cases h; simp [names5]⟩
  · exact ⟨some "win", rfl, fun x h => by cases h; simp [names5]⟩
theorem house_step (n R : Int) (h1 : 1 ≤ R) (h7 : R ≤ 7) (os : List Op) (hl : os.length < 1000) (k : Int) (hk : 0 ≤ k ∧ k < 1000) (j4 j5 j6 j7 : Option Sl) :
    ∃ o j4' j5' j6' j7', OpOk R o ∧ bH (envH n R os (some (.imm (.int k))) j4 j5 j6 j7) = some (.nx (envH n R (os ++ [o]) (some (.imm (.int k))) j4' j5' j6' j7')) := by
  obtain ⟨m, hm, hd⟩ := drawn_eq n (50 + k) (by omega)
  have q0 : 0 ≤ m / 4 := Int.ediv_nonneg hm (by decide)
  generalize hq : m / 4 = q at q0
  have s1 : asg 4 (op2 oDiv (opN d_l_drawn [(nmV 0), (op2 oAdd (cst (.int 50)) (nm 3))]) (cst (.int 4))) (envH n R os (some (.imm (.int k))) j4 j5 j6 j7) = some (.nx (envH n R os (some (.imm (.int k))) (some (.imm (.int q))) j5 j6 j7)) := by
    have n0 : nmV 0 (envH n R os (some (.imm (.int k))) j4 j5 j6 j7) = some (.int n) := rfl
    have n3 : nm 3 (envH n R os (some (.imm (.int k))) j4 j5 j6 j7) = some (.int k) := rfl
    simp only [asg, op2, opN, args, n0, n3, cst, add_ok, Option.bind_some, Option.map_some, hd, div_ok (j := 4) (by decide), hq]
    rfl
  have hone : 0 ≤ q % (R + 1) ∧ q % (R + 1) < R + 1 := ⟨Int.emod_nonneg _ (by omega), Int.emod_lt_of_pos _ (by omega)⟩
  have hother : 0 ≤ q / 8 % R ∧ q / 8 % R < R := ⟨Int.emod_nonneg _ (by omega), Int.emod_lt_of_pos _ (by omega)⟩
  have hneq : (q % (R + 1) + 1 + q / 8 % R) % (R + 1) ≠ q % (R + 1) := by
    generalize q % (R + 1) = a at *
    generalize q / 8 % R = b at *
    intro e
    by_cases c : a + 1 + b < R + 1
    · rw [Int.emod_eq_of_lt (by omega) c] at e
      omega
    · have : (a + 1 + b) % (R + 1) = a + 1 + b - (R + 1) := by
        rw [← Int.sub_emod_right, Int.emod_eq_of_lt (by omega) (by omega)]
      omega
  have hoth : 0 ≤ (q % (R + 1) + 1 + q / 8 % R) % (R + 1) ∧ (q % (R + 1) + 1 + q / 8 % R) % (R + 1) < R + 1 := ⟨Int.emod_nonneg _ (by omega), Int.emod_lt_of_pos _ (by omega)⟩
  have s2 : asg 5 (op2 oMod (nm 4) (op2 oAdd (nm 1) (cst (.int 1)))) (envH n R os (some (.imm (.int k))) (some (.imm (.int q))) j5 j6 j7) = some (.nx (envH n R os (some (.imm (.int k))) (some (.imm (.int q))) (some (.imm (.int (q % (R + 1))))) j6 j7)) := by
    have n4 : nm 4 (envH n R os (some (.imm (.int k))) (some (.imm (.int q))) j5 j6 j7) = some (.int q) := rfl
    have n1 : nm 1 (envH n R os (some (.imm (.int k))) (some (.imm (.int q))) j5 j6 j7) = some (.int R) := rfl
    simp only [asg, op2, n4, n1, cst, add_ok, Option.bind_some, Option.map_some, mod_ok (j := R + 1) (by omega)]
    rfl
  generalize q % (R + 1) = one at *
  have s3 : asg 6 (op2 oMod (op2 oAdd (op2 oAdd (nm 5) (cst (.int 1))) (op2 oMod (op2 oDiv (nm 4) (cst (.int 8))) (nm 1))) (op2 oAdd (nm 1) (cst (.int 1)))) (envH n R os (some (.imm (.int k))) (some (.imm (.int q))) (some (.imm (.int one))) j6 j7) = some (.nx (envH n R os (some (.imm (.int k))) (some (.imm (.int q))) (some (.imm (.int one))) (some (.imm (.int ((one + 1 + q / 8 % R) % (R + 1))))) j7)) := by
    have n5 : nm 5 (envH n R os (some (.imm (.int k))) (some (.imm (.int q))) (some (.imm (.int one))) j6 j7) = some (.int one) := rfl
    have n4 : nm 4 (envH n R os (some (.imm (.int k))) (some (.imm (.int q))) (some (.imm (.int one))) j6 j7) = some (.int q) := rfl
    have n1 : nm 1 (envH n R os (some (.imm (.int k))) (some (.imm (.int q))) (some (.imm (.int one))) j6 j7) = some (.int R) := rfl
    simp only [asg, op2, n5, n4, n1, cst, add_ok, Option.bind_some, Option.map_some, div_ok (j := 8) (by decide), mod_ok (j := R) (by omega), mod_ok (j := R + 1) (by omega)]
    rfl
  generalize (one + 1 + q / 8 % R) % (R + 1) = oth at *
  obtain ⟨z, hz, hzn⟩ := zone_ix (q / 64 % 7) (Int.emod_nonneg _ (by decide)) (Int.emod_lt_of_pos _ (by decide)) (envH n R os (some (.imm (.int k))) (some (.imm (.int q))) (some (.imm (.int one))) (some (.imm (.int oth))) j7)
  have s4 : asg 7 (op2 oIx (mkTup [(cst .none), (cst .none), (cst (.str "a")), (cst (.str "b")), (cst (.str "back")), (cst (.str "hall")), (cst (.str "win"))]) (op2 oMod (op2 oDiv (nm 4) (cst (.int 64))) (cst (.int 7)))) (envH n R os (some (.imm (.int k))) (some (.imm (.int q))) (some (.imm (.int one))) (some (.imm (.int oth))) j7) = some (.nx (envH n R os (some (.imm (.int k))) (some (.imm (.int q))) (some (.imm (.int one))) (some (.imm (.int oth))) (some (.imm (zT z))))) := by
    have n4 : nm 4 (envH n R os (some (.imm (.int k))) (some (.imm (.int q))) (some (.imm (.int one))) (some (.imm (.int oth))) j7) = some (.int q) := rfl
    have hi : op2 oMod (op2 oDiv (nm 4) (cst (.int 64))) (cst (.int 7)) (envH n R os (some (.imm (.int k))) (some (.imm (.int q))) (some (.imm (.int one))) (some (.imm (.int oth))) j7) = some (.int (q / 64 % 7)) := by
      simp only [op2, n4, cst, Option.bind_some, div_ok (j := 64) (by decide), mod_ok (j := 7) (by decide)]
    have hh : op2 oIx (mkTup [(cst .none), (cst .none), (cst (.str "a")), (cst (.str "b")), (cst (.str "back")), (cst (.str "hall")), (cst (.str "win"))]) (op2 oMod (op2 oDiv (nm 4) (cst (.int 64))) (cst (.int 7))) (envH n R os (some (.imm (.int k))) (some (.imm (.int q))) (some (.imm (.int one))) (some (.imm (.int oth))) j7) = some (zT z) := by
      rw [← hz]
      unfold op2 at hi ⊢
      simp only [hi, Option.bind_some]
    simp only [asg, hh, Option.map_some]
    rfl
  refine ⟨((if oth < one then oth else one), (if oth > one then oth else one), z), some (.imm (.int q)), some (.imm (.int one)), some (.imm (.int oth)), some (.imm (zT z)), ⟨?_, ?_, ?_, hzn⟩, ?_⟩
  · dsimp only
    split <;> omega
  · dsimp only
    split <;> split <;> omega
  · dsimp only
    split <;> omega
  · have s5 : asg 2 (op2 oAdd (nm 2) (mkTup [(mkTup [(opN oMin [(nm 5), (nm 6)]), (opN oMax [(nm 5), (nm 6)]), (nmV 7)])])) (envH n R os (some (.imm (.int k))) (some (.imm (.int q))) (some (.imm (.int one))) (some (.imm (.int oth))) (some (.imm (zT z)))) = some (.nx (envH n R (os ++ [((if oth < one then oth else one), (if oth > one then oth else one), z)]) (some (.imm (.int k))) (some (.imm (.int q))) (some (.imm (.int one))) (some (.imm (.int oth))) (some (.imm (zT z))))) := by
      have n5 : nm 5 (envH n R os (some (.imm (.int k))) (some (.imm (.int q))) (some (.imm (.int one))) (some (.imm (.int oth))) (some (.imm (zT z)))) = some (.int one) := rfl
      have n6 : nm 6 (envH n R os (some (.imm (.int k))) (some (.imm (.int q))) (some (.imm (.int one))) (some (.imm (.int oth))) (some (.imm (zT z)))) = some (.int oth) := rfl
      have n7 : nmV 7 (envH n R os (some (.imm (.int k))) (some (.imm (.int q))) (some (.imm (.int one))) (some (.imm (.int oth))) (some (.imm (zT z)))) = some (zT z) := rfl
      have n2 : nm 2 (envH n R os (some (.imm (.int k))) (some (.imm (.int q))) (some (.imm (.int one))) (some (.imm (.int oth))) (some (.imm (zT z)))) = some (.tuple (os.map opT)) := rfl
      have hb : (os.map opT).length + 1 ≤ 16777216 := by simp; omega
      simp only [asg, op2, opN, mkTup, args, n5, n6, n7, n2, Option.bind_some, Option.map_some, oMin, oMax, oAdd, List.length_cons, List.length_nil, big]
      simp [hb, envH, opT]
      omega
    unfold bH
    rw [seq_nx s1, seq_nx s2, seq_nx s3, seq_nx s4, s5]
theorem house_loop (n R : Int) (h1 : 1 ≤ R) (h7 : R ≤ 7) : ∀ (ks : List Int) (os : List Op) (j3 j4 j5 j6 j7 : Option Sl), (∀ k ∈ ks, 0 ≤ k ∧ k < 1000) → os.length + ks.length < 1000 → (∀ o ∈ os, OpOk R o) →
    ∃ os' j3' j4' j5' j6' j7', os'.length = os.length + ks.length ∧ (∀ o ∈ os', OpOk R o) ∧ forL (gNm 3) bH (ks.map .int) (envH n R os j3 j4 j5 j6 j7) = some (.nx (envH n R os' j3' j4' j5' j6' j7'))
  | [], os, j3, j4, j5, j6, j7, _, _, ho => ⟨os, j3, j4, j5, j6, j7, rfl, ho, rfl⟩
  | k :: ks, os, j3, j4, j5, j6, j7, hk, hl, ho => by
    simp only [List.length_cons] at hl
    obtain ⟨o, a4, a5, a6, a7, oo, hs⟩ := house_step n R h1 h7 os (by omega) k (hk k (by simp)) j4 j5 j6 j7
    obtain ⟨os', b3, b4, b5, b6, b7, e1, e2, e3⟩ := house_loop n R h1 h7 ks (os ++ [o]) (some (.imm (.int k))) a4 a5 a6 a7 (fun k' h => hk k' (by simp [h])) (by simp; omega) fun o' h => by
      rcases List.mem_append.mp h with q | q
      · exact ho o' q
      · simp at q
        subst q
        exact oo
    refine ⟨os', b3, b4, b5, b6, b7, by rw [e1]; simp; omega, e2, ?_⟩
    have e0 : gNm 3 (.int k) (envH n R os j3 j4 j5 j6 j7) = some (envH n R os (some (.imm (.int k))) j4 j5 j6 j7) := rfl
    simp only [List.map_cons, forL, e0, Option.bind_some, hs, e3]
theorem house_eq (n : Int) (hn : 0 ≤ n) : ∃ R os, Drawn R os ∧ d_l_house [.int n] = some (houseT R os) := by
  have hR : 0 ≤ n % 7 ∧ n % 7 < 7 := ⟨Int.emod_nonneg _ (by decide), Int.emod_lt_of_pos _ (by decide)⟩
  have hN : 0 ≤ n / 8 % 11 ∧ n / 8 % 11 < 11 := ⟨Int.emod_nonneg _ (by decide), Int.emod_lt_of_pos _ (by decide)⟩
  have s1 : asg 1 (op2 oAdd (cst (.int 1)) (op2 oMod (nm 0) (cst (.int 7)))) [some (.imm (.int n)), none, none, none, none, none, none, none] = some (.nx [some (.imm (.int n)), some (.imm (.int (1 + n % 7))), none, none, none, none, none, none]) := by
    have n0 : nm 0 [some (.imm (.int n)), none, none, none, none, none, none, none] = some (.int n) := rfl
    simp only [asg, op2, n0, cst, Option.bind_some, Option.map_some, mod_ok (j := 7) (by decide), add_ok]
    rfl
  have s2 : asg 2 (mkTup []) [some (.imm (.int n)), some (.imm (.int (1 + n % 7))), none, none, none, none, none, none] = some (.nx (envH n (1 + n % 7) [] none none none none none)) := by
    simp [asg, mkTup, args, big, envH]
  have hit : itRng1 (op2 oMod (op2 oDiv (nm 0) (cst (.int 8))) (cst (.int 11))) (envH n (1 + n % 7) [] none none none none none) = some (((List.range (n / 8 % 11).toNat).map fun (k : Nat) => (k : Int)).map .int) := by
    have n0 : nm 0 (envH n (1 + n % 7) [] none none none none none) = some (.int n) := rfl
    have hs : small62 (n / 8 % 11) = true := by
      unfold small62
      simp
      omega
    simp only [itRng1, op2, n0, cst, Option.bind_some, div_ok (j := 8) (by decide), mod_ok (j := 11) (by decide), hs, if_true, rng, Int.sub_zero, Int.zero_add, List.map_map, Function.comp_def]
  obtain ⟨os, b3, b4, b5, b6, b7, e1, e2, e3⟩ := house_loop n (1 + n % 7) (by omega) (by omega) ((List.range (n / 8 % 11).toNat).map fun (k : Nat) => (k : Int)) [] none none none none none (fun k hk => by
    obtain ⟨j, hj, rfl⟩ := List.mem_map.mp hk
    have := List.mem_range.mp hj
    omega) (by simp; omega) (by simp)
  simp only [List.length_nil, List.length_map, List.length_range] at e1
  refine ⟨1 + n % 7, os, ⟨by omega, by omega, by omega, e2⟩, ?_⟩
  have s3 : for_ (itRng1 (op2 oMod (op2 oDiv (nm 0) (cst (.int 8))) (cst (.int 11)))) (gNm 3) bH (envH n (1 + n % 7) [] none none none none none) = some (.nx (envH n (1 + n % 7) os b3 b4 b5 b6 b7)) := by
    simp only [for_, hit, Option.bind_some]
    exact e3
  have s4 : seq (for_ (itRng1 (op2 oMod (op2 oDiv (nm 0) (cst (.int 8))) (cst (.int 11)))) (gNm 3) bH) (rtn (mkTup [(nmV 1), (nmV 2)])) (envH n (1 + n % 7) [] none none none none none) = some (.rt (houseT (1 + n % 7) os)) := by
    rw [seq_nx s3]
    simp [rtn, mkTup, args, nmV, envH, big, houseT]
  have e0 : d_l_house [.int n] = (b_l_house [some (.imm (.int n)), none, none, none, none, none, none, none]).bind fun o => match o with | .rt t => some t | .nx _ => some .none | _ => none := rfl
  rw [e0]
  unfold b_l_house
  rw [seq_nx s1, seq_nx s2]
  exact congrArg (fun x : Option Out => x.bind fun o => match o with | .rt t => some t | .nx _ => some .none | _ => none) s4
end Ho
end
section
set_option linter.all false
set_option maxHeartbeats 2000000
namespace Ho
open PySem D
/-! ### what the functions of houses tell, of drawn houses -/
theorem within_all {R : Int} {os : List Op} (d : Drawn R os) : Hg.Within R (os.map edge) := fun e he => by
  obtain ⟨o, ho, rfl⟩ := List.mem_map.mp he
  have := d.ok o ho
  unfold OpOk at this
  unfold edge
  dsimp only
  omega
/-- the rooms that are reached, in order -/
def reachL (F : List (Int × Int)) : List Int := sortI ((Hg.bfs F 1000 [0] [0]).getD [])
theorem ways_val {R : Int} {os : List Op} (d : Drawn R os) (room : Int) : ∃ ws, Hg.waysP (os.map edge) room 20 [0] = some ws ∧ d_ways [houseT R os, .int room] = some (.tuple (ws.map wT)) ∧ (ws ≠ [] ↔ Hg.Reach (os.map edge) room) := by
  obtain ⟨ws, h1, h2⟩ := Hg.ways_tot (within_all d) d.r7 (by simpa using d.len) room 20 [0] (by simp) (by simp) (by have := d.r1; simp; omega) (by simp)
  exact ⟨ws, h1, ways_eq h1 (Nat.le_trans h2 (by simp)), Hg.ways_iff h1⟩
/-! ### the watch taken away -/
def bare (ns : List Str) (o : Op) : Op := (o.1, o.2.1, match o.2.2 with
  | none => none
  | some x => if x ∈ ns then none else some x)
theorem args1 {f : Fe} {ε : Ev} {x : T} (hf : f ε = some x) : args [f] ε = some [x] := by simp only [args, hf, Option.bind_some, Option.map_some]
theorem args2 {f g : Fe} {ε : Ev} {x y : T} (hf : f ε = some x) (hg : g ε = some y) : args [f, g] ε = some [x, y] := by simp only [args, hf, hg, Option.bind_some, Option.map_some]
theorem args3 {f g h : Fe} {ε : Ev} {x y z : T} (hf : f ε = some x) (hg : g ε = some y) (hh : h ε = some z) : args [f, g, h] ε = some [x, y, z] := by simp only [args, hf, hg, hh, Option.bind_some, Option.map_some]
theorem mkTup_of {fs : List Fe} {ε : Ev} {xs : List T} (h : args fs ε = some xs) (hl : xs.length ≤ 16777216) : mkTup fs ε = some (.tuple xs) := by
  simp only [mkTup, h, Option.bind_some]
  exact if_pos hl
theorem opN_of {fs : List Fe} {ε : Ev} {xs : List T} {o : List T → Option T} {t : T} (h : args fs ε = some xs) (ho : o xs = some t) : opN o fs ε = some t := by
  simp only [opN, h, Option.bind_some, ho]
theorem op2_of {f g : Fe} {ε : Ev} {o : T → T → Option T} {x y t : T} (hf : f ε = some x) (hg : g ε = some y) (ho : o x y = some t) : op2 o f g ε = some t := by
  simp only [op2, hf, hg, Option.bind_some, ho]
theorem tstB_of {f : Fe} {ε : Ev} {b : Bool} (h : f ε = some (.bool b)) : tstB f ε = some b := by
  simp only [tstB, h, Option.bind_some]
theorem asg_of {i : Nat} {f : Fe} {ε : Ev} {t : T} (h : f ε = some t) : asg i f ε = some (.nx (ε.set i (some (.imm t)))) := by
  simp only [asg, h, Option.map_some]
theorem iff_no {c : Ft} {a b : Fs} {ε : Ev} (h : c ε = some false) : iff c a b ε = b ε := by
  simp only [iff, h, Option.bind_some, Bool.false_eq_true, if_false]
theorem iff_yes {c : Ft} {a b : Fs} {ε : Ev} (h : c ε = some true) : iff c a b ε = a ε := by
  simp only [iff, h, Option.bind_some, if_true]
theorem tup_add {xs ys : List T} (h : xs.length + ys.length ≤ 16777216) : oAdd (.tuple xs) (.tuple ys) = some (.tuple (xs ++ ys)) := if_pos h
theorem forL_nx {g : Fg} {b : Fs} {t : T} {ts : List T} {ε ε1 ε2 : Ev} (h1 : g t ε = some ε1) (h2 : b ε1 = some (.nx ε2)) : forL g b (t :: ts) ε = forL g b ts ε2 := by
  simp only [forL, h1, h2, Option.bind_some]
end Ho
end
section
set_option linter.all false
set_option autoImplicit false
namespace D
open PySem PySem.Spec PyProof.Rows L2
/-- no list stands in the program's own part of the heap -/
def noL (K : PySem.W.Frag) : Bool := K.all fun p => match p.2.cls with
  | .type t => t != "list"
  | _ => true
theorem lookup_mem {α β : Type} [BEq α] [LawfulBEq α] {a : α} {b : β} : ∀ {l : List (α × β)}, l.lookup a = some b → (a, b) ∈ l
  | [], h => by cases h
  | (x, y) :: l, h => by
    rw [List.lookup_cons] at h
    split at h
    next q =>
      cases h
      have : a = x := by simpa using q
      subst this
      simp
    next => exact List.mem_cons_of_mem _ (lookup_mem h)
theorem sp_start {K : PySem.W.Frag} {H : Hp} {a : Addr} {ns : List Int} {d : List T → Option T} (hL : noL K = true) (hd : d [Ho.scriptT ns] = some (.bool true)) (hS : SqL K H a (ns.map V.int)) : spT K 1 d [.ref a] H (fun v _ => v = .bl true) fun _ _ _ => False := by
  rcases hS with hS | ⟨o, its, n, hk, hc, _⟩
  · refine ⟨rfl, fun b => b = a, [Ho.scriptT ns], .bool true, ?_, RepL.cons ?_ RepL.nil, hd, fun v F' H' x r => by simpa [Rep] using r⟩
    · rintro b rfl
      rcases hS with q | ⟨u, q⟩
      · exact ⟨_, q⟩
      · exact ⟨_, q⟩
    · simp only [Ho.scriptT, Rep]
      exact ⟨a, _, rfl, rfl, hS, repL_ints ns⟩
  · have := List.all_eq_true.mp hL _ (lookup_mem hk)
    simp [hc] at this
end D
end
section
set_option linter.all false
namespace Wo
open D Ho
def b_stops (rec : List T → Option T) : Fs :=
    (seq (iff (notT (tstL (nm 0))) (rtn (mkTup [])) skip)
    (seq (iff (tstB (op2 oEq (nm 2) (cst (.int 0)))) (rtn (cst .none)) skip)
    (seq (for_ (itEnum (itTup (nmV 1))) (gTu [(gNm 3), (gNm 4)])
    (seq (asg 5 (comp 1 [4] (itSeq (nmV 0)) (gNm 0) (tstB (op2 (oIn true) (nm 1) (nm 0))) (nmV 0)))
    (iff (tstB (op2 oLt (opN oLen [(nm 5)]) (opN oLen [(nm 0)]))) (seq (asg 6 (opN rec [(nmV 5), (slice (nm 1) (opt (op2 oAdd (nm 3) (cst (.int 1)))) optN), (op2 oSub (nm 2) (cst (.int 1)))]))
    (iff (tstB (op1 oNotN (nm 6))) (rtn (op2 oAdd (mkTup [(nmV 4)]) (nm 6))) skip)) skip)))
    (rtn (cst .none)))))
def d_stops : Nat → List T → Option T
  | 0 => fun _ => none
  | n + 1 => runF (b_stops (d_stops n)) 7
def b_fewest : Fs :=
    (seq (asg 2 (opN d_ways [(nmV 0), (nmV 1)]))
    (seq (asg 3 (opN oTupRng [(opN oLen [(op2 oIx (nm 0) (cst (.int 1)))])]))
    (seq (for_ (itRng1 (op2 oAdd (opN oLen [(nm 3)]) (cst (.int 1)))) (gNm 4)
    (seq (asg 5 (opN (d_stops 20) [(nmV 2), (nmV 3), (nmV 4)]))
    (iff (tstB (op1 oNotN (nm 5))) (rtn (nm 5)) skip)))
    (rtn (mkTup [])))))
def d_fewest : List T → Option T := runF b_fewest 6
def b_are_apart : Fs :=
    (rtn (notV (opN oAny [(comp 1 [1] (itSeq (nmV 0)) (gNm 0) (cstT true) (op2 (oIn false) (nm 0) (nm 1)))])))
def d_are_apart : List T → Option T := runF b_are_apart 2
def b_first_apart (rec : List T → Option T) : Fs :=
    (seq (iff (tstB (op2 oEq (nm 1) (cst (.int 0)))) (rtn (mkTup [])) skip)
    (seq (for_ (itEnum (itSeq (nmV 0))) (gTu [(gNm 2), (gNm 3)])
    (seq (asg 4 (comp 1 [3] (itSeq (slice (nm 0) (opt (op2 oAdd (nm 2) (cst (.int 1)))) optN)) (gNm 0) (tstB (opN d_are_apart [(nmV 1), (nmV 0)])) (nmV 0)))
    (seq (asg 5 (opN rec [(nmV 4), (op2 oSub (nm 1) (cst (.int 1)))]))
    (iff (tstB (op1 oNotN (nm 5))) (rtn (op2 oAdd (mkTup [(nmV 3)]) (nm 5))) skip))))
    (rtn (cst .none))))
def d_first_apart : Nat → List T → Option T
  | 0 => fun _ => none
  | n + 1 => runF (b_first_apart (d_first_apart n)) 6
def b_apart : Fs :=
    (rtn (opN (d_first_apart 20) [(opN d_ways [(nmV 0), (nmV 1)]), (opN oLen [(opN d_fewest [(nmV 0), (nmV 1)])])]))
def d_apart : List T → Option T := runF b_apart 2
end Wo
end
section
set_option linter.all false
set_option maxHeartbeats 4000000
namespace Wo
open PySem D Ho
/-! ### small things -/
theorem iff_skip {c : Ft} {a : Fs} {ε : Ev} (h : c ε = some false) : iff c a skip ε = some (.nx ε) := (iff_no h).trans rfl
def cstN (w : List Nat) : List Int := w.map fun (k : Nat) => (k : Int)
theorem wT_cast (w : List Nat) : wT w = .tuple ((cstN w).map .int) := by simp [wT, cstN]
theorem mem_cast {k : Nat} {w : List Nat} : ((k : Int) ∈ cstN w) ↔ k ∈ w := by
  unfold cstN
  rw [List.mem_map]
  constructor
  · rintro ⟨j, hj, e⟩
    have : j = k := by omega
    exact this ▸ hj
  · intro h
    exact ⟨k, h, rfl⟩
theorem oIn_way (neg : Bool) (k : Nat) (w : List Nat) : oIn neg (.int k) (wT w) = some (.bool (if neg then !decide (k ∈ w) else decide (k ∈ w))) := by
  rw [wT_cast, oIn_int]
  have : decide ((k : Int) ∈ cstN w) = decide (k ∈ w) := decide_eq_decide.mpr mem_cast
  rw [this]
def seqT (b : Bool) (ws : List (List Nat)) : T := if b then .tuple (ws.map wT) else .list (ws.map wT)
theorem it_seqT {f : Fe} {ε : Ev} {b : Bool} {ws : List (List Nat)} (h : f ε = some (seqT b ws)) : itSeq f ε = some (ws.map wT) := by
  unfold itSeq
  rw [h]
  cases b <;> rfl
theorem len_seqT (b : Bool) (ws : List (List Nat)) : oLen [seqT b ws] = some (.int ws.length) := by
  cases b <;> simp [seqT, oLen]
theorem tst_seqT {f : Fe} {ε : Ev} {b : Bool} {ws : List (List Nat)} (h : f ε = some (seqT b ws)) : tstL f ε = some (!ws.isEmpty) := by
  unfold tstL
  rw [h]
  cases b <;> cases ws <;> rfl
theorem sIx_some (n k : Nat) (h : k ≤ n) : D.sIx n 0 (some (k : Int)) = k := by
  unfold D.sIx
  simp only
  rw [if_neg (by omega)]
  omega
theorem sl_seqT (b : Bool) (ws : List (List Nat)) (k : Nat) (h : k ≤ ws.length) : oSl (seqT b ws) (some (k : Int)) none = some (seqT b (ws.drop k)) := by
  have e : cutZ (ws.map wT) (some (k : Int)) none = (ws.drop k).map wT := by
    unfold cutZ
    have h1 : D.sIx (ws.map wT).length (ws.map wT).length none = (ws.map wT).length := rfl
    rw [sIx_some _ _ (by simpa using h), h1, List.map_drop]
    refine List.take_of_length_le ?_
    rw [List.length_drop]
    exact Nat.le_refl _
  cases b
  · show some (PyData.list _) = _
    rw [e]
    rfl
  · show some (PyData.tuple _) = _
    rw [e]
    rfl
theorem sl_way (w : List Nat) (k : Nat) (h : k ≤ w.length) : oSl (wT w) (some (k : Int)) none = some (wT (w.drop k)) := by
  unfold wT oSl cutZ
  have h1 : D.sIx (w.map fun (k : Nat) => PyData.int (k : Int)).length (w.map fun (k : Nat) => PyData.int (k : Int)).length none = (w.map fun (k : Nat) => PyData.int (k : Int)).length := rfl
  simp only
  rw [sIx_some _ _ (by simpa using h), h1, List.map_drop, List.take_of_length_le (by rw [List.length_drop]; exact Nat.le_refl _)]
theorem add_way (n : Nat) (w : List Nat) (h : w.length ≤ 1000) : oAdd (.tuple [.int n]) (wT w) = some (wT (n :: w)) := by
  have := tup_add (xs := [PyData.int (n : Int)]) (ys := w.map fun (k : Nat) => PyData.int (k : Int)) (by simp; omega)
  exact this
def opW : Option (List Nat) → T
  | some C => wT C
  | none => .none
def opR : Option (List (List Nat)) → T
  | some B => .tuple (B.map wT)
  | none => .none
/-! ### stops -/
theorem comp_missed (n : Nat) : ∀ (ths : List (List Nat)) (j : Option Sl), compL (gNm 0) (tstB (op2 (oIn true) (nm 1) (nm 0))) (nmV 0) (ths.map wT) [j, some (.imm (.int n))] = some ((Hg.missed n ths).map wT)
  | [], j => rfl
  | w :: ths, j => by
    have ih := comp_missed n ths (some (.imm (wT w)))
    have e0 : gNm 0 (wT w) [j, some (.imm (.int n))] = some [some (.imm (wT w)), some (.imm (.int n))] := rfl
    have c : tstB (op2 (oIn true) (nm 1) (nm 0)) [some (.imm (wT w)), some (.imm (.int n))] = some (!decide (n ∈ w)) := tstB_of (op2_of rfl rfl (oIn_way true n w))
    have v : nmV 0 [some (.imm (wT w)), some (.imm (.int n))] = some (wT w) := rfl
    unfold Hg.missed at ih ⊢
    by_cases h : n ∈ w
    · simp only [List.map_cons, compL, e0, c, Option.bind_some, h, decide_true, Bool.not_true, Bool.false_eq_true, if_false, ih, List.filter_cons]
    · simp only [List.map_cons, compL, e0, c, Option.bind_some, h, decide_false, Bool.not_false, if_true, v, ih, List.filter_cons, Option.map_some]
def endW (ε : Ev) : Option (List Nat) → Out
  | some C => .rt (wT C)
  | none => .nx ε
def endN (n : Nat) (ε : Ev) : Option (List Nat) → Out
  | some C => .rt (wT (n :: C))
  | none => .nx ε
def bS (rec : List T → Option T) : Fs := (seq (asg 5 (comp 1 [4] (itSeq (nmV 0)) (gNm 0) (tstB (op2 (oIn true) (nm 1) (nm 0))) (nmV 0)))
    (iff (tstB (op2 oLt (opN oLen [(nm 5)]) (opN oLen [(nm 0)]))) (seq (asg 6 (opN rec [(nmV 5), (slice (nm 1) (opt (op2 oAdd (nm 3) (cst (.int 1)))) optN), (op2 oSub (nm 2) (cst (.int 1)))]))
    (iff (tstB (op1 oNotN (nm 6))) (rtn (op2 oAdd (mkTup [(nmV 4)]) (nm 6))) skip)) skip))
def envS (b : Bool) (ths : List (List Nat)) (nums : List Nat) (many : Nat) (j3 j4 j5 j6 : Option Sl) : Ev := [some (.imm (seqT b ths)), some (.imm (wT nums)), some (.imm (.int many)), j3, j4, j5, j6]
theorem s_step {rec : List T → Option T} (b : Bool) (ths : List (List Nat)) (nums : List Nat) (many : Nat) (hm : many ≠ 0) (hl : ths.length ≤ 1000) (k n : Nat) (hk : k < nums.length) (r : Option (List Nat)) (hr : ∀ C, r = some C → C.length ≤ 900)
    (hrec : (Hg.missed n ths).length < ths.length → rec [.list ((Hg.missed n ths).map wT), wT (nums.drop (k + 1)), .int ((many : Int) - 1)] = some (opW r)) (j5 j6 : Option Sl) :
    bS rec (envS b ths nums many (some (.imm (.int k))) (some (.imm (.int n))) j5 j6) =
      some (if (Hg.missed n ths).length < ths.length then (endN n (envS b ths nums many (some (.imm (.int k))) (some (.imm (.int n))) (some (.imm (.list ((Hg.missed n ths).map wT)))) (some (.imm .none))) r) else .nx (envS b ths nums many (some (.imm (.int k))) (some (.imm (.int n))) (some (.imm (.list ((Hg.missed n ths).map wT)))) j6)) := by
  have v5 : comp 1 [4] (itSeq (nmV 0)) (gNm 0) (tstB (op2 (oIn true) (nm 1) (nm 0))) (nmV 0) (envS b ths nums many (some (.imm (.int k))) (some (.imm (.int n))) j5 j6) = some (.list ((Hg.missed n ths).map wT)) := by
    have it : itSeq (nmV 0) (envS b ths nums many (some (.imm (.int k))) (some (.imm (.int n))) j5 j6) = some (ths.map wT) := it_seqT rfl
    have hcap : capEnv 1 [4] (envS b ths nums many (some (.imm (.int k))) (some (.imm (.int n))) j5 j6) = [none, some (.imm (.int n))] := rfl
    simp only [comp, it, Option.bind_some, hcap, comp_missed, List.length_map]
    rw [if_pos (by unfold big; omega)]
    rfl
  have s5 : asg 5 (comp 1 [4] (itSeq (nmV 0)) (gNm 0) (tstB (op2 (oIn true) (nm 1) (nm 0))) (nmV 0)) (envS b ths nums many (some (.imm (.int k))) (some (.imm (.int n))) j5 j6) = some (.nx (envS b ths nums many (some (.imm (.int k))) (some (.imm (.int n))) (some (.imm (.list ((Hg.missed n ths).map wT)))) j6)) := asg_of v5
  have c : tstB (op2 oLt (opN oLen [(nm 5)]) (opN oLen [(nm 0)])) (envS b ths nums many (some (.imm (.int k))) (some (.imm (.int n))) (some (.imm (.list ((Hg.missed n ths).map wT)))) j6) = some (decide (((Hg.missed n ths).length : Int) < (ths.length : Int))) := by
    refine tstB_of (op2_of (opN_of (args1 (f := nm 5) rfl) (t := .int (Hg.missed n ths).length) (by simp [oLen])) (opN_of (args1 (f := nm 0) rfl) (len_seqT b ths)) rfl)
  unfold bS
  rw [seq_nx s5]
  by_cases hlt : (Hg.missed n ths).length < ths.length
  · rw [if_pos hlt]
    rw [decide_eq_true (by omega)] at c
    rw [iff_yes c]
    have sl : slice (nm 1) (opt (op2 oAdd (nm 3) (cst (.int 1)))) optN (envS b ths nums many (some (.imm (.int k))) (some (.imm (.int n))) (some (.imm (.list ((Hg.missed n ths).map wT)))) j6) = some (wT (nums.drop (k + 1))) := by
      have h1 : nm 1 (envS b ths nums many (some (.imm (.int k))) (some (.imm (.int n))) (some (.imm (.list ((Hg.missed n ths).map wT)))) j6) = some (wT nums) := rfl
      have h2 : opt (op2 oAdd (nm 3) (cst (.int 1))) (envS b ths nums many (some (.imm (.int k))) (some (.imm (.int n))) (some (.imm (.list ((Hg.missed n ths).map wT)))) j6) = some (some ((k + 1 : Nat) : Int)) := rfl
      simp only [slice, h1, h2, Option.bind_some, optN]
      exact sl_way nums (k + 1) hk
    have sb : op2 oSub (nm 2) (cst (.int 1)) (envS b ths nums many (some (.imm (.int k))) (some (.imm (.int n))) (some (.imm (.list ((Hg.missed n ths).map wT)))) j6) = some (.int ((many : Int) - 1)) := op2_of rfl rfl rfl
    have s6 : asg 6 (opN rec [(nmV 5), (slice (nm 1) (opt (op2 oAdd (nm 3) (cst (.int 1)))) optN), (op2 oSub (nm 2) (cst (.int 1)))]) (envS b ths nums many (some (.imm (.int k))) (some (.imm (.int n))) (some (.imm (.list ((Hg.missed n ths).map wT)))) j6) = some (.nx (envS b ths nums many (some (.imm (.int k))) (some (.imm (.int n))) (some (.imm (.list ((Hg.missed n ths).map wT)))) (some (.imm (opW r))))) :=
      asg_of (opN_of (args3 rfl sl sb) (hrec hlt))
    rw [seq_nx s6]
    cases r with
    | none =>
      have c6 : tstB (op1 oNotN (nm 6)) (envS b ths nums many (some (.imm (.int k))) (some (.imm (.int n))) (some (.imm (.list ((Hg.missed n ths).map wT)))) (some (.imm (opW none)))) = some false := rfl
      rw [iff_skip c6]
      rfl
    | some C =>
      have c6 : tstB (op1 oNotN (nm 6)) (envS b ths nums many (some (.imm (.int k))) (some (.imm (.int n))) (some (.imm (.list ((Hg.missed n ths).map wT)))) (some (.imm (opW (some C))))) = some true := rfl
      rw [iff_yes c6]
      have ha : op2 oAdd (mkTup [(nmV 4)]) (nm 6) (envS b ths nums many (some (.imm (.int k))) (some (.imm (.int n))) (some (.imm (.list ((Hg.missed n ths).map wT)))) (some (.imm (opW (some C))))) = some (wT (n :: C)) :=
        op2_of (mkTup_of (args1 rfl) (by simp)) rfl (add_way n C (by have := hr C rfl; omega))
      simp only [rtn, ha, Option.map_some, endN]
  · rw [if_neg hlt]
    rw [decide_eq_false (by omega)] at c
    rw [iff_skip c]
theorem stops_len {ths : List (List Nat)} {nums : List Nat} {many : Nat} {C : List Nat} (h : Hg.stopsR ths nums many = some C) : C.length ≤ nums.length := (Hg.stops_sound h).1.length_le
theorem s_loop {rec : List T → Option T} (b : Bool) (ths : List (List Nat)) (nums : List Nat) (many : Nat) (hm : many ≠ 0) (hne : ths ≠ []) (hl : ths.length ≤ 1000) (hnum : nums.length ≤ 800)
    (hrec : ∀ os ns, ns.length < nums.length → os.length ≤ 1000 → rec [.list (os.map wT), wT ns, .int ((many : Int) - 1)] = some (opW (Hg.stopsR os ns (many - 1)))) :
    ∀ (ns : List Nat) (k : Nat) (j3 j4 j5 j6 : Option Sl), nums.drop k = ns → ∃ ε, forL (gTu [(gNm 3), (gNm 4)]) (bS rec) (((ns.map fun (k : Nat) => PyData.int (k : Int)).zipIdx k).map fun p => .tuple [.int p.2, p.1]) (envS b ths nums many j3 j4 j5 j6) = some (endW ε (Hg.stopsR ths ns many))
  | [], k, j3, j4, j5, j6, _ => by
    refine ⟨envS b ths nums many j3 j4 j5 j6, ?_⟩
    have : Hg.stopsR ths [] many = none := by
      unfold Hg.stopsR
      rw [if_neg (by simpa using hne)]
    rw [this]
    rfl
  | n :: ns, k, j3, j4, j5, j6, hd => by
    have hk : k < nums.length := by
      rcases Nat.lt_or_ge k nums.length with q | q
      · exact q
      · rw [List.drop_of_length_le q] at hd
        cases hd
    have hd' : nums.drop (k + 1) = ns := by
      rw [List.drop_eq_getElem_cons hk] at hd
      exact (List.cons.inj hd).2
    have hnl : ns.length < nums.length := by
      rw [← hd', List.length_drop]
      omega
    have hml : (Hg.missed n ths).length ≤ 1000 := Nat.le_trans (List.length_filter_le _ _) hl
    have st := s_step (rec := rec) b ths nums many hm hl k n hk (Hg.stopsR (Hg.missed n ths) ns (many - 1)) (fun C h => by have := stops_len h; omega) (fun _ => by rw [hd']; exact hrec _ ns hnl hml) j5 j6
    have e0 : gTu [(gNm 3), (gNm 4)] (.tuple [.int k, .int n]) (envS b ths nums many j3 j4 j5 j6) = some (envS b ths nums many (some (.imm (.int k))) (some (.imm (.int n))) j5 j6) := rfl
    have he : ths.isEmpty = false := by simpa using hne
    rw [List.map_cons, List.zipIdx_cons, List.map_cons]
    by_cases hlt : (Hg.missed n ths).length < ths.length
    · rw [if_pos hlt] at st
      cases hs : Hg.stopsR (Hg.missed n ths) ns (many - 1) with
      | some C =>
        rw [hs] at st
        have unf : Hg.stopsR ths (n :: ns) many = some (n :: C) := by
          simp only [Hg.stopsR, he, Bool.false_eq_true, if_false, hm, hlt, if_true, hs]
        rw [unf]
        refine ⟨envS b ths nums many j3 j4 j5 j6, ?_⟩
        simp only [forL, e0, Option.bind_some, st, endN]
        rfl
      | none =>
        rw [hs] at st
        have unf : Hg.stopsR ths (n :: ns) many = Hg.stopsR ths ns many := by
          conv => lhs; simp only [Hg.stopsR, he, Bool.false_eq_true, if_false, hm, hlt, if_true, hs]
        rw [unf]
        obtain ⟨ε, ih⟩ := s_loop b ths nums many hm hne hl hnum hrec ns (k + 1) (some (.imm (.int k))) (some (.imm (.int n))) (some (.imm (.list ((Hg.missed n ths).map wT)))) (some (.imm .none)) hd'
        exact ⟨ε, by rw [forL_nx e0 st]; exact ih⟩
    · rw [if_neg hlt] at st
      have unf : Hg.stopsR ths (n :: ns) many = Hg.stopsR ths ns many := by
        conv => lhs; simp only [Hg.stopsR, he, Bool.false_eq_true, if_false, hm, hlt]
      rw [unf]
      obtain ⟨ε, ih⟩ := s_loop b ths nums many hm hne hl hnum hrec ns (k + 1) (some (.imm (.int k))) (some (.imm (.int n))) (some (.imm (.list ((Hg.missed n ths).map wT)))) j6 hd'
      exact ⟨ε, by rw [forL_nx e0 st]; exact ih⟩
theorem stops_eq : ∀ (n : Nat) (b : Bool) (ths : List (List Nat)) (nums : List Nat) (many : Nat), nums.length < n → ths.length ≤ 1000 → nums.length ≤ 800 → d_stops n [seqT b ths, wT nums, .int many] = some (opW (Hg.stopsR ths nums many))
  | 0, b, ths, nums, many, h, _, _ => by omega
  | n + 1, b, ths, nums, many, h, hl, hnum => by
    have e0 : d_stops (n + 1) [seqT b ths, wT nums, .int many] = (b_stops (d_stops n) (envS b ths nums many none none none none)).bind fun o => match o with | .rt t => some t | .nx _ => some .none | _ => none := rfl
    rw [e0]
    have c1 : notT (tstL (nm 0)) (envS b ths nums many none none none none) = some (!(!ths.isEmpty)) := by
      have : tstL (nm 0) (envS b ths nums many none none none none) = some (!ths.isEmpty) := tst_seqT rfl
      simp only [notT, this, Option.map_some]
    by_cases hne : ths = []
    · subst hne
      have r : b_stops (d_stops n) (envS b [] nums many none none none none) = some (.rt (.tuple [])) := by
        unfold b_stops
        simp only [seq, iff_yes (show notT (tstL (nm 0)) (envS b [] nums many none none none none) = some true from c1), rtn]
        rfl
      rw [r, Hg.stopsR_nil]
      rfl
    · have he : ths.isEmpty = false := by cases ths with
        | nil => exact absurd rfl hne
        | cons a b => rfl
      rw [he] at c1
      have c2 : tstB (op2 oEq (nm 2) (cst (.int 0))) (envS b ths nums many none none none none) = some (decide ((many : Int) = 0)) := tstB_of (op2_of rfl rfl (oEq_int _ _))
      by_cases hm : many = 0
      · subst hm
        have hs : Hg.stopsR ths nums 0 = none := by
          cases nums with
          | nil => unfold Hg.stopsR; rw [if_neg (by simpa using hne)]
          | cons a r => unfold Hg.stopsR; rw [if_neg (by simpa using hne), if_pos rfl]
        have r : b_stops (d_stops n) (envS b ths nums 0 none none none none) = some (.rt .none) := by
          unfold b_stops
          rw [seq_nx (iff_skip c1)]
          simp only [seq, iff_yes (show tstB (op2 oEq (nm 2) (cst (.int 0))) (envS b ths nums 0 none none none none) = some true from c2), rtn]
          rfl
        rw [r, hs]
        rfl
      · rw [decide_eq_false (by omega)] at c2
        have hmi : (many : Int) - 1 = ((many - 1 : Nat) : Int) := by omega
        obtain ⟨ε, hlp⟩ := s_loop (rec := d_stops n) b ths nums many hm hne hl hnum (fun os ns h1 h2 => by
          rw [hmi]
          exact stops_eq n false os ns (many - 1) (by omega) h2 (by omega)) nums 0 none none none none rfl
        have it : itEnum (itTup (nmV 1)) (envS b ths nums many none none none none) = some (((nums.map fun (k : Nat) => PyData.int (k : Int)).zipIdx 0).map fun p => .tuple [.int p.2, p.1]) := rfl
        have hf : for_ (itEnum (itTup (nmV 1))) (gTu [(gNm 3), (gNm 4)]) (bS (d_stops n)) (envS b ths nums many none none none none) = some (endW ε (Hg.stopsR ths nums many)) := by
          simp only [for_, it, Option.bind_some]
          exact hlp
        have r : b_stops (d_stops n) (envS b ths nums many none none none none) = some (.rt (opW (Hg.stopsR ths nums many))) := by
          unfold bS at hf
          unfold b_stops
          rw [seq_nx (iff_skip c1), seq_nx (iff_skip c2)]
          cases hs : Hg.stopsR ths nums many with
          | some C =>
            rw [hs] at hf
            simp only [seq, hf, Option.bind_some, endW]
            rfl
          | none =>
            rw [hs] at hf
            rw [seq_nx hf]
            rfl
        rw [r]
        rfl
/-! ### fewest -/
def bF : Fs := (seq (asg 5 (opN (d_stops 20) [(nmV 2), (nmV 3), (nmV 4)]))
    (iff (tstB (op1 oNotN (nm 5))) (rtn (nm 5)) skip))
def envF (h : T) (room : Int) (ths : List (List Nat)) (nums : List Nat) (j4 j5 : Option Sl) : Ev := [some (.imm h), some (.imm (.int room)), some (.imm (seqT true ths)), some (.imm (wT nums)), j4, j5]
theorem f_loop (h : T) (room : Int) (ths : List (List Nat)) (nums : List Nat) (hl : ths.length ≤ 1000) (hnum : nums.length < 20) : ∀ (ms : List Nat) (j4 j5 : Option Sl) (C : List Nat), Hg.fewL ths nums ms = some C → forL (gNm 4) bF (ms.map fun (k : Nat) => PyData.int (k : Int)) (envF h room ths nums j4 j5) = some (.rt (wT C))
  | [], j4, j5, C, e => by cases e
  | m :: ms, j4, j5, C, e => by
    have hs := stops_eq 20 true ths nums m hnum hl (by omega)
    have e0 : gNm 4 (.int m) (envF h room ths nums j4 j5) = some (envF h room ths nums (some (.imm (.int m))) j5) := rfl
    have s5 : asg 5 (opN (d_stops 20) [(nmV 2), (nmV 3), (nmV 4)]) (envF h room ths nums (some (.imm (.int m))) j5) = some (.nx (envF h room ths nums (some (.imm (.int m))) (some (.imm (opW (Hg.stopsR ths nums m)))))) := asg_of (opN_of (args3 rfl rfl rfl) hs)
    unfold Hg.fewL at e
    cases hr : Hg.stopsR ths nums m with
    | some C' =>
      rw [hr] at e s5
      cases e
      have st : bF (envF h room ths nums (some (.imm (.int m))) j5) = some (.rt (wT C)) := by
        unfold bF
        rw [seq_nx s5, iff_yes (show tstB (op1 oNotN (nm 5)) _ = some true from rfl)]
        rfl
      rw [List.map_cons]
      simp only [forL, e0, Option.bind_some, st]
    | none =>
      rw [hr] at e s5
      have st : bF (envF h room ths nums (some (.imm (.int m))) j5) = some (.nx (envF h room ths nums (some (.imm (.int m))) (some (.imm .none)))) := by
        unfold bF
        rw [seq_nx s5, iff_skip (show tstB (op1 oNotN (nm 5)) _ = some false from rfl)]
        rfl
      rw [List.map_cons, forL_nx e0 st]
      exact f_loop h room ths nums hl hnum ms _ _ C e
theorem rng_nat (n : Nat) : rng 0 (n : Int) = (List.range n).map fun (k : Nat) => PyData.int (k : Int) := by
  unfold rng
  simp
theorem few_s3 (R : Int) (os : List Op) (room : Int) (ths : List (List Nat)) (hos : os.length < 20) : asg 3 (opN oTupRng [(opN oLen [(op2 oIx (nm 0) (cst (.int 1)))])]) [some (.imm (houseT R os)), some (.imm (.int room)), some (.imm (seqT true ths)), none, none, none] = some (.nx (envF (houseT R os) room ths (List.range os.length) none none)) := by
  have h1 : opN oLen [(op2 oIx (nm 0) (cst (.int 1)))] [some (.imm (houseT R os)), some (.imm (.int room)), some (.imm (seqT true ths)), none, none, none] = some (.int os.length) := opN_of (args1 (op2_of (x := houseT R os) rfl rfl (t := .tuple (os.map opT)) rfl)) (by simp [oLen])
  have h2 : oTupRng [.int os.length] = some (wT (List.range os.length)) := by
    have hb : (0 : Int) ≤ (os.length : Int) ∧ (os.length : Int) ≤ 100000 := ⟨by omega, by omega⟩
    have e : oTupRng [.int os.length] = if (0 : Int) ≤ (os.length : Int) ∧ (os.length : Int) ≤ 100000 then some (.tuple (rng 0 (os.length : Int))) else none := by unfold oTupRng; rfl
    rw [e, if_pos hb, rng_nat, wT]
  exact asg_of (opN_of (args1 h1) h2)
theorem small_of {j : Int} (h0 : 0 ≤ j) (h1 : j ≤ 100) : small62 j = true := by
  unfold small62
  simp
  omega
theorem it_rng {f : Fe} {ε : Ev} {j : Int} (h : f ε = some (.int j)) (h0 : 0 ≤ j) (h1 : j ≤ 100) : itRng1 f ε = some (rng 0 j) := by
  unfold itRng1
  rw [h]
  simp only [Option.bind_some]
  rw [if_pos (small_of h0 h1)]
theorem few_it (R : Int) (os : List Op) (room : Int) (ths : List (List Nat)) (hos : os.length < 20) : itRng1 (op2 oAdd (opN oLen [(nm 3)]) (cst (.int 1))) (envF (houseT R os) room ths (List.range os.length) none none) = some ((List.range (os.length + 1)).map fun (k : Nat) => PyData.int (k : Int)) := by
  have h0 : opN oLen [(nm 3)] (envF (houseT R os) room ths (List.range os.length) none none) = some (.int os.length) := opN_of (args1 (x := wT (List.range os.length)) rfl) (by simp [oLen, wT])
  have h1 : op2 oAdd (opN oLen [(nm 3)]) (cst (.int 1)) (envF (houseT R os) room ths (List.range os.length) none none) = some (.int ((os.length : Int) + 1)) := op2_of h0 rfl rfl
  have e : (os.length : Int) + 1 = ((os.length + 1 : Nat) : Int) := by omega
  rw [it_rng h1 (by omega) (by omega), e, rng_nat]
theorem fewest_eq {R : Int} {os : List Op} {room : Int} {ths : List (List Nat)} {C : List Nat} (hw : d_ways [houseT R os, .int room] = some (.tuple (ths.map wT))) (hl : ths.length ≤ 1000) (hos : os.length < 20)
    (hC : Hg.fewL ths (List.range os.length) (List.range (os.length + 1)) = some C) : d_fewest [houseT R os, .int room] = some (wT C) := by
  have e0 : d_fewest [houseT R os, .int room] = (b_fewest [some (.imm (houseT R os)), some (.imm (.int room)), none, none, none, none]).bind fun o => match o with | .rt t => some t | .nx _ => some .none | _ => none := rfl
  rw [e0]
  have s2 : asg 2 (opN d_ways [(nmV 0), (nmV 1)]) [some (.imm (houseT R os)), some (.imm (.int room)), none, none, none, none] = some (.nx [some (.imm (houseT R os)), some (.imm (.int room)), some (.imm (seqT true ths)), none, none, none]) := asg_of (opN_of (args2 rfl rfl) hw)
  have s3 := few_s3 R os room ths hos
  have it := few_it R os room ths hos
  have hf : for_ (itRng1 (op2 oAdd (opN oLen [(nm 3)]) (cst (.int 1)))) (gNm 4) bF (envF (houseT R os) room ths (List.range os.length) none none) = some (.rt (wT C)) := by
    simp only [for_, it, Option.bind_some]
    exact f_loop (houseT R os) room ths (List.range os.length) hl (by simpa using hos) _ none none C hC
  have r : b_fewest [some (.imm (houseT R os)), some (.imm (.int room)), none, none, none, none] = some (.rt (wT C)) := by
    unfold bF at hf
    unfold b_fewest
    rw [seq_nx s2, seq_nx s3]
    simp only [seq, hf, Option.bind_some]
  rw [r]
  rfl
/-! ### apart -/
theorem comp_ins (v : List Nat) : ∀ (w : List Nat) (j : Option Sl), compL (gNm 0) (cstT true) (op2 (oIn false) (nm 0) (nm 1)) (w.map fun (k : Nat) => PyData.int (k : Int)) [j, some (.imm (wT v))] = some ((w.map fun k => decide (k ∈ v)).map .bool)
  | [], j => rfl
  | k :: w, j => by
    have ih := comp_ins v w (some (.imm (.int k)))
    have e0 : gNm 0 (.int k) [j, some (.imm (wT v))] = some [some (.imm (.int k)), some (.imm (wT v))] := rfl
    have x : op2 (oIn false) (nm 0) (nm 1) [some (.imm (.int k)), some (.imm (wT v))] = some (.bool (decide (k ∈ v))) := op2_of rfl rfl (oIn_way false k v)
    simp only [List.map_cons, compL, e0, Option.bind_some, cstT, if_true, x, ih, Option.map_some]
theorem boolsOf_bools : ∀ bs : List Bool, boolsOf (bs.map .bool) = some bs
  | [] => rfl
  | b :: bs => by
    simp only [List.map_cons, boolsOf, boolsOf_bools bs]
    rfl
theorem are_apart_eq (w v : List Nat) (hl : w.length ≤ 1000) : d_are_apart [wT w, wT v] = some (.bool (Hg.aptB w v)) := by
  have e0 : d_are_apart [wT w, wT v] = (b_are_apart [some (.imm (wT w)), some (.imm (wT v))]).bind fun o => match o with | .rt t => some t | .nx _ => some .none | _ => none := rfl
  rw [e0]
  have hc : comp 1 [1] (itSeq (nmV 0)) (gNm 0) (cstT true) (op2 (oIn false) (nm 0) (nm 1)) [some (.imm (wT w)), some (.imm (wT v))] = some (.list ((w.map fun k => decide (k ∈ v)).map .bool)) := by
    have it : itSeq (nmV 0) [some (.imm (wT w)), some (.imm (wT v))] = some (w.map fun (k : Nat) => PyData.int (k : Int)) := rfl
    have hcap : capEnv 1 [1] [some (.imm (wT w)), some (.imm (wT v))] = [none, some (.imm (wT v))] := rfl
    simp only [comp, it, Option.bind_some, hcap, comp_ins, List.length_map]
    rw [if_pos (by unfold big; omega)]
    rfl
  have ha : opN oAny [(comp 1 [1] (itSeq (nmV 0)) (gNm 0) (cstT true) (op2 (oIn false) (nm 0) (nm 1)))] [some (.imm (wT w)), some (.imm (wT v))] = some (.bool ((w.map fun k => decide (k ∈ v)).any id)) := by
    refine opN_of (args1 hc) ?_
    simp only [oAny, boolsOf_bools, Option.map_some]
  simp only [b_are_apart, rtn, notV, ha, Option.bind_some, Option.map_some, Hg.aptB, List.any_map, Function.comp_def, id]
theorem comp_apt (w : List Nat) (hl : w.length ≤ 1000) : ∀ (vs : List (List Nat)) (j : Option Sl), compL (gNm 0) (tstB (opN d_are_apart [(nmV 1), (nmV 0)])) (nmV 0) (vs.map wT) [j, some (.imm (wT w))] = some ((vs.filter (Hg.aptB w)).map wT)
  | [], j => rfl
  | v :: vs, j => by
    have ih := comp_apt w hl vs (some (.imm (wT v)))
    have e0 : gNm 0 (wT v) [j, some (.imm (wT w))] = some [some (.imm (wT v)), some (.imm (wT w))] := rfl
    have c : tstB (opN d_are_apart [(nmV 1), (nmV 0)]) [some (.imm (wT v)), some (.imm (wT w))] = some (Hg.aptB w v) := tstB_of (opN_of (args2 rfl rfl) (are_apart_eq w v hl))
    have x : nmV 0 [some (.imm (wT v)), some (.imm (wT w))] = some (wT v) := rfl
    cases h : Hg.aptB w v with
    | true => rw [h] at c; simp only [List.map_cons, compL, e0, c, Option.bind_some, if_true, x, ih, List.filter_cons, h, Option.map_some]
    | false => rw [h] at c; simp only [List.map_cons, compL, e0, c, Option.bind_some, Bool.false_eq_true, if_false, ih, List.filter_cons, h]
def bA (rec : List T → Option T) : Fs := (seq (asg 4 (comp 1 [3] (itSeq (slice (nm 0) (opt (op2 oAdd (nm 2) (cst (.int 1)))) optN)) (gNm 0) (tstB (opN d_are_apart [(nmV 1), (nmV 0)])) (nmV 0)))
    (seq (asg 5 (opN rec [(nmV 4), (op2 oSub (nm 1) (cst (.int 1)))]))
    (iff (tstB (op1 oNotN (nm 5))) (rtn (op2 oAdd (mkTup [(nmV 3)]) (nm 5))) skip)))
def envA (b : Bool) (ths : List (List Nat)) (many : Nat) (j2 j3 j4 j5 : Option Sl) : Ev := [some (.imm (seqT b ths)), some (.imm (.int many)), j2, j3, j4, j5]
theorem fa_len {m : Nat} {ths B : List (List Nat)} (h : Hg.faR m ths = some B) : B.length = m := (Hg.fa_sound h).2.1
theorem a_loop {rec : List T → Option T} (b : Bool) (ths : List (List Nat)) (m : Nat) (hm : m ≤ 1000) (hl : ths.length ≤ 1000) (hw : ∀ w ∈ ths, w.length ≤ 1000)
    (hrec : ∀ vs, vs.length ≤ 1000 → (∀ w ∈ vs, w.length ≤ 1000) → rec [.list (vs.map wT), .int (((m + 1 : Nat) : Int) - 1)] = some (opR (Hg.faR m vs))) :
    ∀ (ws : List (List Nat)) (k : Nat) (j2 j3 j4 j5 : Option Sl), ths.drop k = ws → ∃ ε, forL (gTu [(gNm 2), (gNm 3)]) (bA rec) (((ws.map wT).zipIdx k).map fun p => .tuple [.int p.2, p.1]) (envA b ths (m + 1) j2 j3 j4 j5) = some (match Hg.faL (Hg.faR m) ws with | some B => .rt (.tuple (B.map wT)) | none => .nx ε)
  | [], k, j2, j3, j4, j5, _ => ⟨envA b ths (m + 1) j2 j3 j4 j5, rfl⟩
  | w :: ws, k, j2, j3, j4, j5, hd => by
    have hk : k < ths.length := by
      rcases Nat.lt_or_ge k ths.length with q | q
      · exact q
      · rw [List.drop_of_length_le q] at hd
        cases hd
    have hd' : ths.drop (k + 1) = ws := by
      rw [List.drop_eq_getElem_cons hk] at hd
      exact (List.cons.inj hd).2
    have hmem : ∀ v ∈ w :: ws, v ∈ ths := fun v hv => List.mem_of_mem_drop (by rw [hd]; exact hv)
    have hwl := hw w (hmem w (by simp))
    have hwsl : ws.length ≤ 1000 := by rw [← hd', List.length_drop]; omega
    have e0 : gTu [(gNm 2), (gNm 3)] (.tuple [.int k, wT w]) (envA b ths (m + 1) j2 j3 j4 j5) = some (envA b ths (m + 1) (some (.imm (.int k))) (some (.imm (wT w))) j4 j5) := rfl
    have sl : slice (nm 0) (opt (op2 oAdd (nm 2) (cst (.int 1)))) optN (envA b ths (m + 1) (some (.imm (.int k))) (some (.imm (wT w))) j4 j5) = some (seqT b ws) := by
      have h1 : nm 0 (envA b ths (m + 1) (some (.imm (.int k))) (some (.imm (wT w))) j4 j5) = some (seqT b ths) := rfl
      have h2 : opt (op2 oAdd (nm 2) (cst (.int 1))) (envA b ths (m + 1) (some (.imm (.int k))) (some (.imm (wT w))) j4 j5) = some (some ((k + 1 : Nat) : Int)) := rfl
      simp only [slice, h1, h2, Option.bind_some, optN]
      rw [sl_seqT b ths (k + 1) hk, hd']
    have v4 : comp 1 [3] (itSeq (slice (nm 0) (opt (op2 oAdd (nm 2) (cst (.int 1)))) optN)) (gNm 0) (tstB (opN d_are_apart [(nmV 1), (nmV 0)])) (nmV 0) (envA b ths (m + 1) (some (.imm (.int k))) (some (.imm (wT w))) j4 j5) = some (.list ((ws.filter (Hg.aptB w)).map wT)) := by
      have it := it_seqT sl
      have hcap : capEnv 1 [3] (envA b ths (m + 1) (some (.imm (.int k))) (some (.imm (wT w))) j4 j5) = [none, some (.imm (wT w))] := rfl
      simp only [comp, it, Option.bind_some, hcap, comp_apt w hwl, List.length_map]
      rw [if_pos (by unfold big; omega)]
      rfl
    have s4 : asg 4 (comp 1 [3] (itSeq (slice (nm 0) (opt (op2 oAdd (nm 2) (cst (.int 1)))) optN)) (gNm 0) (tstB (opN d_are_apart [(nmV 1), (nmV 0)])) (nmV 0)) (envA b ths (m + 1) (some (.imm (.int k))) (some (.imm (wT w))) j4 j5) = some (.nx (envA b ths (m + 1) (some (.imm (.int k))) (some (.imm (wT w))) (some (.imm (.list ((ws.filter (Hg.aptB w)).map wT)))) j5)) := asg_of v4
    have hr := hrec (ws.filter (Hg.aptB w)) (Nat.le_trans (List.length_filter_le _ _) hwsl) fun v hv => hw v (hmem v (List.mem_cons_of_mem _ (List.mem_filter.mp hv).1))
    have s5 : asg 5 (opN rec [(nmV 4), (op2 oSub (nm 1) (cst (.int 1)))]) (envA b ths (m + 1) (some (.imm (.int k))) (some (.imm (wT w))) (some (.imm (.list ((ws.filter (Hg.aptB w)).map wT)))) j5) = some (.nx (envA b ths (m + 1) (some (.imm (.int k))) (some (.imm (wT w))) (some (.imm (.list ((ws.filter (Hg.aptB w)).map wT)))) (some (.imm (opR (Hg.faR m (ws.filter (Hg.aptB w)))))))) :=
      asg_of (opN_of (args2 rfl (op2_of rfl rfl rfl)) hr)
    rw [List.map_cons, List.zipIdx_cons, List.map_cons, Hg.faL]
    cases hs : Hg.faR m (ws.filter (Hg.aptB w)) with
    | some B =>
      rw [hs] at s5
      have hB := fa_len hs
      refine ⟨envA b ths (m + 1) j2 j3 j4 j5, ?_⟩
      have st : bA rec (envA b ths (m + 1) (some (.imm (.int k))) (some (.imm (wT w))) j4 j5) = some (.rt (.tuple ((w :: B).map wT))) := by
        unfold bA
        rw [seq_nx s4, seq_nx s5, iff_yes (show tstB (op1 oNotN (nm 5)) _ = some true from rfl)]
        have ha : op2 oAdd (mkTup [(nmV 3)]) (nm 5) (envA b ths (m + 1) (some (.imm (.int k))) (some (.imm (wT w))) (some (.imm (.list ((ws.filter (Hg.aptB w)).map wT)))) (some (.imm (opR (some B))))) = some (.tuple ((w :: B).map wT)) :=
          op2_of (mkTup_of (args1 rfl) (by simp)) rfl (tup_add (by simp; omega))
        simp only [rtn, ha, Option.map_some]
      simp only [forL, e0, Option.bind_some, st]
    | none =>
      rw [hs] at s5
      have st : bA rec (envA b ths (m + 1) (some (.imm (.int k))) (some (.imm (wT w))) j4 j5) = some (.nx (envA b ths (m + 1) (some (.imm (.int k))) (some (.imm (wT w))) (some (.imm (.list ((ws.filter (Hg.aptB w)).map wT)))) (some (.imm .none)))) := by
        unfold bA
        rw [seq_nx s4, seq_nx s5, iff_skip (show tstB (op1 oNotN (nm 5)) _ = some false from rfl)]
        rfl
      obtain ⟨ε, ih⟩ := a_loop b ths m hm hl hw hrec ws (k + 1) (some (.imm (.int k))) (some (.imm (wT w))) (some (.imm (.list ((ws.filter (Hg.aptB w)).map wT)))) (some (.imm .none)) hd'
      exact ⟨ε, by rw [forL_nx e0 st]; exact ih⟩
theorem first_apart_eq : ∀ (n : Nat) (b : Bool) (ths : List (List Nat)) (many : Nat), many < n → many ≤ 1000 → ths.length ≤ 1000 → (∀ w ∈ ths, w.length ≤ 1000) → d_first_apart n [seqT b ths, .int many] = some (opR (Hg.faR many ths))
  | 0, b, ths, many, h, _, _, _ => by omega
  | n + 1, b, ths, many, h, hm, hl, hw => by
    have e0 : d_first_apart (n + 1) [seqT b ths, .int many] = (b_first_apart (d_first_apart n) (envA b ths many none none none none)).bind fun o => match o with | .rt t => some t | .nx _ => some .none | _ => none := rfl
    rw [e0]
    have c2 : tstB (op2 oEq (nm 1) (cst (.int 0))) (envA b ths many none none none none) = some (decide ((many : Int) = 0)) := tstB_of (op2_of rfl rfl (oEq_int _ _))
    cases many with
    | zero =>
      have r : b_first_apart (d_first_apart n) (envA b ths 0 none none none none) = some (.rt (.tuple [])) := by
        unfold b_first_apart
        simp only [seq, iff_yes (show tstB (op2 oEq (nm 1) (cst (.int 0))) (envA b ths 0 none none none none) = some true from c2), rtn]
        rfl
      rw [r]
      rfl
    | succ m =>
      rw [decide_eq_false (by omega)] at c2
      have hmi : ((m + 1 : Nat) : Int) - 1 = (m : Int) := by omega
      obtain ⟨ε, hlp⟩ := a_loop (rec := d_first_apart n) b ths m (by omega) hl hw (fun vs h1 h2 => by
        rw [hmi]
        exact first_apart_eq n false vs m (by omega) (by omega) h1 h2) ths 0 none none none none rfl
      have it : itEnum (itSeq (nmV 0)) (envA b ths (m + 1) none none none none) = some (((ths.map wT).zipIdx 0).map fun p => .tuple [.int p.2, p.1]) := by
        have := it_seqT (f := nmV 0) (ε := envA b ths (m + 1) none none none none) (b := b) (ws := ths) rfl
        simp only [itEnum, this, Option.map_some]
        rfl
      have hf : for_ (itEnum (itSeq (nmV 0))) (gTu [(gNm 2), (gNm 3)]) (bA (d_first_apart n)) (envA b ths (m + 1) none none none none) = some (match Hg.faL (Hg.faR m) ths with | some B => .rt (.tuple (B.map wT)) | none => .nx ε) := by
        simp only [for_, it, Option.bind_some]
        exact hlp
      have r : b_first_apart (d_first_apart n) (envA b ths (m + 1) none none none none) = some (.rt (opR (Hg.faR (m + 1) ths))) := by
        unfold bA at hf
        unfold b_first_apart
        rw [seq_nx (iff_skip c2)]
        show seq _ _ _ = some (.rt (opR (Hg.faL (Hg.faR m) ths)))
        cases hs : Hg.faL (Hg.faR m) ths with
        | some C =>
          rw [hs] at hf
          simp only [seq, hf, Option.bind_some]
          rfl
        | none =>
          rw [hs] at hf
          rw [seq_nx hf]
          rfl
      rw [r]
      rfl
theorem apart_eq {R : Int} {os : List Op} {room : Int} {ths : List (List Nat)} {C : List Nat} (hw : d_ways [houseT R os, .int room] = some (.tuple (ths.map wT))) (hl : ths.length ≤ 1000) (hwl : ∀ w ∈ ths, w.length ≤ 1000) (hf : d_fewest [houseT R os, .int room] = some (wT C)) (hC : C.length < 20) : d_apart [houseT R os, .int room] = some (opR (Hg.faR C.length ths)) := by
  have e0 : d_apart [houseT R os, .int room] = (b_apart [some (.imm (houseT R os)), some (.imm (.int room))]).bind fun o => match o with | .rt t => some t | .nx _ => some .none | _ => none := rfl
  rw [e0]
  have h1 : opN d_ways [(nmV 0), (nmV 1)] [some (.imm (houseT R os)), some (.imm (.int room))] = some (seqT true ths) := opN_of (args2 rfl rfl) hw
  have h2 : opN oLen [(opN d_fewest [(nmV 0), (nmV 1)])] [some (.imm (houseT R os)), some (.imm (.int room))] = some (.int C.length) := opN_of (args1 (opN_of (args2 rfl rfl) hf)) (by simp [oLen, wT])
  have h3 : opN (d_first_apart 20) [(opN d_ways [(nmV 0), (nmV 1)]), (opN oLen [(opN d_fewest [(nmV 0), (nmV 1)])])] [some (.imm (houseT R os)), some (.imm (.int room))] = some (opR (Hg.faR C.length ths)) := opN_of (args2 h1 h2) (first_apart_eq 20 true ths C.length hC (by omega) hl hwl)
  simp only [b_apart, rtn, h3, Option.map_some, Option.bind_some]
end Wo
end
section
set_option linter.all false
namespace K21
open D Ho Wo
def b_l_sets : Fs :=
    (seq (asg 1 (mkLst [(mkTup [])]))
    (seq (for_ (itRng1 (nm 0)) (gNm 2)
    (asg 1 (op2 oAdd (nm 1) (comp 1 [2] (itSeq (nmV 1)) (gNm 0) (cstT true) (op2 oAdd (nm 0) (mkTup [(nmV 1)]))))))
    (rtn (nm 1))))
def d_l_sets : List T → Option T := runF b_l_sets 3
def b_law : Fs :=
    (seq (asg 1 (opN d_l_house [(opN d_l_mixed [(nmV 0), (cst (.int 0))])]))
    (seq (asg 1 (mkTup [(op2 oIx (nm 1) (cst (.int 0))), (slice (op2 oIx (nm 1) (cst (.int 1))) optN (opt (cst (.int 8))))]))
    (seq (asg 2 (op2 oAdd (cst (.int 1)) (op2 oMod (opN d_l_mixed [(nmV 0), (cst (.int 1))]) (op2 oIx (nm 1) (cst (.int 0))))))
    (seq (asg 3 (opN d_ways [(nmV 1), (nmV 2)]))
    (seq (asg 4 (cst .none))
    (seq (for_ (itSeq (opN d_l_sets [(opN oLen [(op2 oIx (nm 1) (cst (.int 1)))])])) (gNm 5)
    (iff (tstB (op2 oEq (comp 1 [5] (itSeq (nmV 3)) (gNm 0) (tstB (op2 oEq (comp 1 [1] (itSeq (nmV 0)) (gNm 0) (tstB (op2 (oIn false) (nm 0) (nm 1))) (nmV 0)) (mkLst []))) (nmV 0)) (mkLst []))) (iff (orT (tstB (op1 oIsN (nm 4))) (tstB (op2 oLtD (mkTup [(opN oLen [(nm 5)]), (nmV 5)]) (nm 4)))) (asg 4 (mkTup [(opN oLen [(nm 5)]), (nmV 5)])) skip) skip))
    (seq (iff (tstB (op2 oNe (opN d_fewest [(nmV 1), (nmV 2)]) (op2 oIx (nm 4) (cst (.int 1))))) (rtn (cst (.bool false))) skip)
    (seq (asg 6 (mkLst [(mkTup [])]))
    (seq (for_ (itSeq (nmV 3)) (gNm 7)
    (seq (asgN 8 (mkLst []))
    (seq (for_ (itSeq (nmV 6)) (gNm 9)
    (seq (asg 10 (mkLst []))
    (seq (for_ (itSeq (nmV 9)) (gNm 5)
    (asg 10 (op2 oAdd (nm 10) (opN oList [(nm 5)]))))
    (iff (tstB (op2 oEq (comp 1 [10] (itSeq (nmV 7)) (gNm 0) (tstB (op2 (oIn false) (nm 0) (nm 1))) (nmV 0)) (mkLst []))) (app 8 (op2 oAdd (nm 9) (mkTup [(nmV 7)]))) skip))))
    (asg 6 (op2 oAdd (nm 6) (nm 8))))))
    (seq (asg 11 (opN oMaxL [(comp 1 [] (itSeq (nmV 6)) (gNm 0) (cstT true) (opN oLen [(nm 0)]))]))
    (rtn (op2 oEq (opN d_apart [(nmV 1), (nmV 2)]) (opN oMinD [(comp 1 [11] (itSeq (nmV 6)) (gNm 0) (tstB (op2 oEq (opN oLen [(nm 0)]) (nm 1))) (nmV 0))])))))))))))))
def d_law : List T → Option T := runF b_law 12
end K21
end
section
set_option linter.all false
set_option Elab.async false
set_option maxRecDepth 100000
set_option autoImplicit false
set_option maxHeartbeats 0
namespace K21
open PySem PySem.Spec PyProof.Rows L2 D Ho Wo
def top (i : Nat) : Stmt := PySem.Challenge.pw_doorwatch_k21_fewest_and_apart.main.body.getD i (.Pass ⟨0, 0, 0, 0⟩)
section
variable {P : Program} {w : World} {K : PySem.W.Frag} {mg : Str → Option Value} {base : Heap}
abbrev s_beyond : Stmt := top 2
theorem sc_beyond : FnScope ["opening", "here"] ["opening", "here"] (defScope s_beyond) := ⟨rfl, rfl, rfl, by decide +kernel, rfl, by decide +kernel, by decide +kernel⟩
theorem bd_beyond {K : PySem.W.Frag} {f : Addr} {fd : FuncData} (F : Fun K "beyond" "beyond" s_beyond f fd) : Binds K fd ["opening", "here"] [] := F.binds (ps := ["opening", "here"]) fun _ _ _ _ _ _ us hl => match us, hl with | [_, _], _ => rfl
theorem c_beyond {k : Nat} {f : Addr} {fd : FuncData} (F : Fun K "beyond" "beyond" s_beyond f fd) (m : mg "beyond" = some (.ref f))  : Cl P w K mg base "beyond" (k + 1) 2 d_beyond :=
  cl_of F sc_beyond (bd_beyond F) m fun cdv A outer s H E hr =>
    (b_cons (s_if (t_cmp (op_eqT (by exact hr.units)) op2_eq (v2r (q_ix (q_nm 0) (v2r q_int))) (q_nm 1)) (b_one (s_ret (v2r (q_ix (q_nm 0) (v2r q_int))))) b_nil)
    (b_cons (s_if (t_cmp (op_eqT (by exact hr.units)) op2_eq (v2r (q_ix (q_nm 0) (v2r q_int))) (q_nm 1)) (b_one (s_ret (v2r (q_ix (q_nm 0) (v2r q_int))))) b_nil)
    (b_one (s_ret (v2r q_non)))))
abbrev s_ways_on : Stmt := top 3
theorem sc_ways_on : FnScope ["house", "room", "places", "found", "number", "opening", "there"] ["house", "room", "places"] (defScope s_ways_on) := ⟨rfl, rfl, rfl, by decide +kernel, rfl, by decide +kernel, by decide +kernel⟩
theorem bd_ways_on {K : PySem.W.Frag} {f : Addr} {fd : FuncData} (F : Fun K "ways_on" "ways_on" s_ways_on f fd) : Binds K fd ["house", "room", "places"] [] := F.binds (ps := ["house", "room", "places"]) fun _ _ _ _ _ _ us hl => match us, hl with | [_, _, _], _ => rfl
theorem c1_ways_on {k : Nat} {d : List T → Option T} {f : Addr} {fd : FuncData} (F : Fun K "ways_on" "ways_on" s_ways_on f fd) (m : mg "ways_on" = some (.ref f)) (c_ways_on : Cl P w K mg base "ways_on" k 3 d) (z_enumerate : mg "enumerate" = none) (c_beyond : Cl P w K mg base "beyond" k 2 d_beyond) : Cl P w K mg base "ways_on" (k + 1) 3 (runF (b_ways_on d) 7) :=
  cl_of F sc_ways_on (bd_ways_on F) m fun cdv A outer s H E hr =>
    (b_cons (s_if (t_cmp (op_eqT (by exact hr.units)) op2_eq (v2r (q_ix (q_nm 2) (v2r (q_neg (v2r q_int))))) (q_nm 1)) (b_one (s_ret (v2r (q_lstV (a_consV (q_tup a_nilV) a_nilV))))) b_nil)
    (b_cons (s_asgN 3 sc_ways_on.nd (q_lst a_nilV))
    (b_cons (s_for PassesOwn.never (i_enum z_enumerate (q_ix (q_nm 0) (v2r q_int))) (g_tup (g_cons (g_nm 4 sc_ways_on.nd) (g_cons (g_nm 5 sc_ways_on.nd) g_nil)))
    (b_cons (s_asg 6 sc_ways_on.nd (q_callC c_beyond hr (a_consV (q_nmV 5) (a_consV (q_ix (q_nm 2) (v2r (q_neg (v2r q_int)))) a_nilV))))
    (b_one (s_if (w_t (w_and (t_notN (q_nm 6)) (w_and1 (t_cmp (op_notInT (by exact hr.units)) op2_in (q_nm 6) (q_nm 2))))) (b_one (s_ext 3 (v2r (q_compV (own := ["rest"]) (caps := [(4, "number")]) (compOk (sc := defScope s_ways_on) ["house", "room", "places", "found", "number", "opening", "there"] rfl rfl rfl (by decide +kernel)) (i_seq (q_callC c_ways_on hr (a_consV (q_nmV 0) (a_consV (q_nmV 1) (a_consV (q_add (q_nm 2) (v2r (q_tup (a_consV (q_nmV 6) a_nilV)))) a_nilV))))) (fun _ _ _ _ _ _ => (g_nm 0 (show List.Nodup (["rest", "number"] : List Str) by decide +kernel))) (fun _ _ _ _ _ _ => ts_nil) (fun _ _ _ _ _ _ => (q_add (v2r (q_tup (a_consV (q_nmV 1) a_nilV))) (q_nm 0))))))) b_nil))))
    (b_one (s_ret (q_nm 3))))))
theorem c_ways_on {k : Nat} {f : Addr} {fd : FuncData} (F : Fun K "ways_on" "ways_on" s_ways_on f fd) (m : mg "ways_on" = some (.ref f)) (z_enumerate : mg "enumerate" = none) (c_beyond : Cl P w K mg base "beyond" k 2 d_beyond) : ∀ n, Cl P w K mg base "ways_on" (k + n) 3 (d_ways_on n)
  | 0 => .mk' fnOk_none m F.kp (bd_ways_on F)
  | n + 1 => c1_ways_on F m (c_ways_on F m z_enumerate c_beyond n) z_enumerate (c_beyond.mono (Nat.le_add_right _ _))
abbrev s_ways : Stmt := top 4
theorem sc_ways : FnScope ["house", "room"] ["house", "room"] (defScope s_ways) := ⟨rfl, rfl, rfl, by decide +kernel, rfl, by decide +kernel, by decide +kernel⟩
theorem bd_ways {K : PySem.W.Frag} {f : Addr} {fd : FuncData} (F : Fun K "ways" "ways" s_ways f fd) : Binds K fd ["house", "room"] [] := F.binds (ps := ["house", "room"]) fun _ _ _ _ _ _ us hl => match us, hl with | [_, _], _ => rfl
theorem c_ways {k : Nat} {f : Addr} {fd : FuncData} (F : Fun K "ways" "ways" s_ways f fd) (m : mg "ways" = some (.ref f)) (z_tuple : mg "tuple" = none) (c_ways_on : Cl P w K mg base "ways_on" k 3 (d_ways_on 20)) {t_OUTSIDE : Tok} (g_OUTSIDE : mg "OUTSIDE" = some (.int 0 t_OUTSIDE)) : Cl P w K mg base "ways" (k + 1) 2 d_ways :=
  cl_of F sc_ways (bd_ways F) m fun cdv A outer s H E hr =>
    (b_one (s_ret (v2r (q_tuple z_tuple (a_consR (v2r (q_callC c_ways_on hr (a_consV (q_nmV 0) (a_consV (q_nmV 1) (a_consV (q_tup (a_consV (q_gI g_OUTSIDE) a_nilV)) a_nilV))))) a_nilR)))))
abbrev s_stops : Stmt := top 6
theorem sc_stops : FnScope ["through", "numbers", "many", "place", "number", "others", "behind"] ["through", "numbers", "many"] (defScope s_stops) := ⟨rfl, rfl, rfl, by decide +kernel, rfl, by decide +kernel, by decide +kernel⟩
theorem bd_stops {K : PySem.W.Frag} {f : Addr} {fd : FuncData} (F : Fun K "stops" "stops" s_stops f fd) : Binds K fd ["through", "numbers", "many"] [] := F.binds (ps := ["through", "numbers", "many"]) fun _ _ _ _ _ _ us hl => match us, hl with | [_, _, _], _ => rfl
theorem c1_stops {k : Nat} {d : List T → Option T} {f : Addr} {fd : FuncData} (F : Fun K "stops" "stops" s_stops f fd) (m : mg "stops" = some (.ref f)) (c_stops : Cl P w K mg base "stops" k 3 d) (z_enumerate : mg "enumerate" = none) (z_len : mg "len" = none) : Cl P w K mg base "stops" (k + 1) 3 (runF (b_stops d) 7) :=
  cl_of F sc_stops (bd_stops F) m fun cdv A outer s H E hr =>
    (b_cons (s_if (t_not (t_list (q_nm 0))) (b_one (s_ret (v2r (q_tup a_nilV)))) b_nil)
    (b_cons (s_if (t_cmp (op_eqT (by exact hr.units)) op2_eq (q_nm 2) (v2r q_int)) (b_one (s_ret (v2r q_non))) b_nil)
    (b_cons (s_for PassesOwn.never (i_enum z_enumerate (q_nmV 1)) (g_tup (g_cons (g_nm 3 sc_stops.nd) (g_cons (g_nm 4 sc_stops.nd) g_nil)))
    (b_cons (s_asgC 5 sc_stops.nd (own := ["way"]) (caps := [(4, "number")]) (compOk (sc := defScope s_stops) ["through", "numbers", "many", "place", "number", "others", "behind"] rfl rfl rfl (by decide +kernel)) (i_seq (q_nmV 0)) (fun _ _ _ _ _ _ => (g_nm 0 (show List.Nodup (["way", "number"] : List Str) by decide +kernel))) (fun _ _ _ _ _ _ => (ts_one (t_cmp (op_notInT (by exact hr.units)) op2_in (q_nm 1) (q_nm 0)))) (fun _ _ _ _ _ _ => (q_nmV 0)))
    (b_one (s_if (t_cmp (op_lt.or op_lt_str) op2_lt (v2r (q_len z_len (a_consR (q_nm 5) a_nilR))) (v2r (q_len z_len (a_consR (q_nm 0) a_nilR)))) (b_cons (s_asg 6 sc_stops.nd (q_callC c_stops hr (a_consV (q_nmV 5) (a_consV (q_slice (q_nm 1) (o_some (v2r (q_add (q_nm 3) (v2r q_int)))) o_none) (a_consV (q_sub (q_nm 2) (v2r q_int)) a_nilV)))))
    (b_one (s_if (t_notN (q_nm 6)) (b_one (s_ret (v2r (q_add (v2r (q_tup (a_consV (q_nmV 4) a_nilV))) (q_nm 6))))) b_nil))) b_nil))))
    (b_one (s_ret (v2r q_non))))))
theorem c_stops {k : Nat} {f : Addr} {fd : FuncData} (F : Fun K "stops" "stops" s_stops f fd) (m : mg "stops" = some (.ref f)) (z_enumerate : mg "enumerate" = none) (z_len : mg "len" = none) : ∀ n, Cl P w K mg base "stops" (k + n) 3 (d_stops n)
  | 0 => .mk' fnOk_none m F.kp (bd_stops F)
  | n + 1 => c1_stops F m (c_stops F m z_enumerate z_len n) z_enumerate z_len
abbrev s_fewest : Stmt := top 7
theorem sc_fewest : FnScope ["house", "room", "through", "numbers", "many", "found"] ["house", "room"] (defScope s_fewest) := ⟨rfl, rfl, rfl, by decide +kernel, rfl, by decide +kernel, by decide +kernel⟩
theorem bd_fewest {K : PySem.W.Frag} {f : Addr} {fd : FuncData} (F : Fun K "fewest" "fewest" s_fewest f fd) : Binds K fd ["house", "room"] [] := F.binds (ps := ["house", "room"]) fun _ _ _ _ _ _ us hl => match us, hl with | [_, _], _ => rfl
theorem c_fewest {k : Nat} {f : Addr} {fd : FuncData} (F : Fun K "fewest" "fewest" s_fewest f fd) (m : mg "fewest" = some (.ref f)) (c_ways : Cl P w K mg base "ways" k 2 d_ways) (z_tuple : mg "tuple" = none) (z_range : mg "range" = none) (c_stops : Cl P w K mg base "stops" k 3 (d_stops 20)) (z_len : mg "len" = none) : Cl P w K mg base "fewest" (k + 1) 2 d_fewest :=
  cl_of F sc_fewest (bd_fewest F) m fun cdv A outer s H E hr =>
    (b_cons (s_asg 2 sc_fewest.nd (q_callC c_ways hr (a_consV (q_nmV 0) (a_consV (q_nmV 1) a_nilV))))
    (b_cons (s_asg 3 sc_fewest.nd (q_tupRng rfl z_tuple z_range (v2r (q_len z_len (a_consR (v2r (q_ix (q_nm 0) (v2r q_int))) a_nilR)))))
    (b_cons (s_for PassesOwn.never (i_rng1 z_range (v2r (q_add (v2r (q_len z_len (a_consR (q_nm 3) a_nilR))) (v2r q_int)))) (g_nm 4 sc_fewest.nd)
    (b_cons (s_asg 5 sc_fewest.nd (q_callC c_stops hr (a_consV (q_nmV 2) (a_consV (q_nmV 3) (a_consV (q_nmV 4) a_nilV)))))
    (b_one (s_if (t_notN (q_nm 5)) (b_one (s_ret (q_nm 5))) b_nil))))
    (b_one (s_ret (v2r (q_tup a_nilV)))))))
abbrev s_are_apart : Stmt := top 8
theorem sc_are_apart : FnScope ["way", "other"] ["way", "other"] (defScope s_are_apart) := ⟨rfl, rfl, rfl, by decide +kernel, rfl, by decide +kernel, by decide +kernel⟩
theorem bd_are_apart {K : PySem.W.Frag} {f : Addr} {fd : FuncData} (F : Fun K "are_apart" "are_apart" s_are_apart f fd) : Binds K fd ["way", "other"] [] := F.binds (ps := ["way", "other"]) fun _ _ _ _ _ _ us hl => match us, hl with | [_, _], _ => rfl
theorem c_are_apart {k : Nat} {f : Addr} {fd : FuncData} (F : Fun K "are_apart" "are_apart" s_are_apart f fd) (m : mg "are_apart" = some (.ref f)) (z_any : mg "any" = none) : Cl P w K mg base "are_apart" (k + 1) 2 d_are_apart :=
  cl_of F sc_are_apart (bd_are_apart F) m fun cdv A outer s H E hr =>
    (b_one (s_ret (v2r (q_not (q_any rfl z_any (a_consR (v2r (q_compV (own := ["number"]) (caps := [(1, "other")]) (compOk (sc := defScope s_are_apart) ["way", "other"] rfl rfl rfl (by decide +kernel)) (i_seq (q_nmV 0)) (fun _ _ _ _ _ _ => (g_nm 0 (show List.Nodup (["number", "other"] : List Str) by decide +kernel))) (fun _ _ _ _ _ _ => ts_nil) (fun _ _ _ _ _ _ => (q_cmp (op_inT (by exact hr.units)) op2_in (q_nm 0) (q_nm 1))))) a_nilR))))))
abbrev s_first_apart : Stmt := top 9
theorem sc_first_apart : FnScope ["through", "many", "place", "way", "others", "behind"] ["through", "many"] (defScope s_first_apart) := ⟨rfl, rfl, rfl, by decide +kernel, rfl, by decide +kernel, by decide +kernel⟩
theorem bd_first_apart {K : PySem.W.Frag} {f : Addr} {fd : FuncData} (F : Fun K "first_apart" "first_apart" s_first_apart f fd) : Binds K fd ["through", "many"] [] := F.binds (ps := ["through", "many"]) fun _ _ _ _ _ _ us hl => match us, hl with | [_, _], _ => rfl
theorem c1_first_apart {k : Nat} {d : List T → Option T} {f : Addr} {fd : FuncData} (F : Fun K "first_apart" "first_apart" s_first_apart f fd) (m : mg "first_apart" = some (.ref f)) (c_first_apart : Cl P w K mg base "first_apart" k 2 d) (z_enumerate : mg "enumerate" = none) (c_are_apart : Cl P w K mg base "are_apart" k 2 d_are_apart) : Cl P w K mg base "first_apart" (k + 1) 2 (runF (b_first_apart d) 6) :=
  cl_of F sc_first_apart (bd_first_apart F) m fun cdv A outer s H E hr =>
    (b_cons (s_if (t_cmp (op_eqT (by exact hr.units)) op2_eq (q_nm 1) (v2r q_int)) (b_one (s_ret (v2r (q_tup a_nilV)))) b_nil)
    (b_cons (s_for PassesOwn.never (i_enumS z_enumerate (q_nmV 0)) (g_tup (g_cons (g_nm 2 sc_first_apart.nd) (g_cons (g_nm 3 sc_first_apart.nd) g_nil)))
    (b_cons (s_asgC 4 sc_first_apart.nd (own := ["other"]) (caps := [(3, "way")]) (compOk (sc := defScope s_first_apart) ["through", "many", "place", "way", "others", "behind"] rfl rfl rfl (by decide +kernel)) (i_seq (q_slice (q_nm 0) (o_some (v2r (q_add (q_nm 2) (v2r q_int)))) o_none)) (fun _ _ _ _ _ _ => (g_nm 0 (show List.Nodup (["other", "way"] : List Str) by decide +kernel))) (fun _ _ _ _ _ _ => (ts_one (t_bool (v2r (q_callC (by exact c_are_apart) (by exact hr) (a_consV (q_nmV 1) (a_consV (q_nmV 0) a_nilV))))))) (fun _ _ _ _ _ _ => (q_nmV 0)))
    (b_cons (s_asg 5 sc_first_apart.nd (q_callC c_first_apart hr (a_consV (q_nmV 4) (a_consV (q_sub (q_nm 1) (v2r q_int)) a_nilV))))
    (b_one (s_if (t_notN (q_nm 5)) (b_one (s_ret (v2r (q_add (v2r (q_tup (a_consV (q_nmV 3) a_nilV))) (q_nm 5))))) b_nil)))))
    (b_one (s_ret (v2r q_non)))))
theorem c_first_apart {k : Nat} {f : Addr} {fd : FuncData} (F : Fun K "first_apart" "first_apart" s_first_apart f fd) (m : mg "first_apart" = some (.ref f)) (z_enumerate : mg "enumerate" = none) (c_are_apart : Cl P w K mg base "are_apart" k 2 d_are_apart) : ∀ n, Cl P w K mg base "first_apart" (k + n) 2 (d_first_apart n)
  | 0 => .mk' fnOk_none m F.kp (bd_first_apart F)
  | n + 1 => c1_first_apart F m (c_first_apart F m z_enumerate c_are_apart n) z_enumerate (c_are_apart.mono (Nat.le_add_right _ _))
abbrev s_apart : Stmt := top 10
theorem sc_apart : FnScope ["house", "room"] ["house", "room"] (defScope s_apart) := ⟨rfl, rfl, rfl, by decide +kernel, rfl, by decide +kernel, by decide +kernel⟩
theorem bd_apart {K : PySem.W.Frag} {f : Addr} {fd : FuncData} (F : Fun K "apart" "apart" s_apart f fd) : Binds K fd ["house", "room"] [] := F.binds (ps := ["house", "room"]) fun _ _ _ _ _ _ us hl => match us, hl with | [_, _], _ => rfl
theorem c_apart {k : Nat} {f : Addr} {fd : FuncData} (F : Fun K "apart" "apart" s_apart f fd) (m : mg "apart" = some (.ref f)) (c_first_apart : Cl P w K mg base "first_apart" k 2 (d_first_apart 20)) (c_ways : Cl P w K mg base "ways" k 2 d_ways) (z_len : mg "len" = none) (c_fewest : Cl P w K mg base "fewest" k 2 d_fewest) : Cl P w K mg base "apart" (k + 1) 2 d_apart :=
  cl_of F sc_apart (bd_apart F) m fun cdv A outer s H E hr =>
    (b_one (s_ret (v2r (q_callC c_first_apart hr (a_consV (q_callC c_ways hr (a_consV (q_nmV 0) (a_consV (q_nmV 1) a_nilV))) (a_consV (q_len z_len (a_consR (v2r (q_callC c_fewest hr (a_consV (q_nmV 0) (a_consV (q_nmV 1) a_nilV)))) a_nilR)) a_nilV))))))
abbrev s_l_cell_at : Stmt := top 12
theorem sc_l_cell_at : FnScope ["_law_script", "_law_k"] ["_law_script", "_law_k"] (defScope s_l_cell_at) := ⟨rfl, rfl, rfl, by decide +kernel, rfl, by decide +kernel, by decide +kernel⟩
theorem bd_l_cell_at {K : PySem.W.Frag} {f : Addr} {fd : FuncData} (F : Fun K "_law_cell_at" "_law_cell_at" s_l_cell_at f fd) : Binds K fd ["_law_script", "_law_k"] [] := F.binds (ps := ["_law_script", "_law_k"]) fun _ _ _ _ _ _ us hl => match us, hl with | [_, _], _ => rfl
theorem c_l_cell_at {k : Nat} {f : Addr} {fd : FuncData} (F : Fun K "_law_cell_at" "_law_cell_at" s_l_cell_at f fd) (m : mg "_law_cell_at" = some (.ref f)) (z_len : mg "len" = none) : Cl P w K mg base "_law_cell_at" (k + 1) 2 d_l_cell_at :=
  cl_of F sc_l_cell_at (bd_l_cell_at F) m fun cdv A outer s H E hr =>
    (b_cons (s_if (t_cmp (op_lt.or op_lt_str) op2_lt (q_nm 1) (v2r (q_len z_len (a_consR (q_nm 0) a_nilR)))) (b_one (s_ret (v2r (q_ix (q_nm 0) (q_nm 1))))) b_nil)
    (b_one (s_ret (v2r q_int))))
abbrev s_l_mixed : Stmt := top 13
theorem sc_l_mixed : FnScope ["_law_script", "_law_k", "_law_drawn_here"] ["_law_script", "_law_k"] (defScope s_l_mixed) := ⟨rfl, rfl, rfl, by decide +kernel, rfl, by decide +kernel, by decide +kernel⟩
theorem bd_l_mixed {K : PySem.W.Frag} {f : Addr} {fd : FuncData} (F : Fun K "_law_mixed" "_law_mixed" s_l_mixed f fd) : Binds K fd ["_law_script", "_law_k"] [] := F.binds (ps := ["_law_script", "_law_k"]) fun _ _ _ _ _ _ us hl => match us, hl with | [_, _], _ => rfl
theorem c_l_mixed {k : Nat} {f : Addr} {fd : FuncData} (F : Fun K "_law_mixed" "_law_mixed" s_l_mixed f fd) (m : mg "_law_mixed" = some (.ref f)) (c_l_cell_at : Cl P w K mg base "_law_cell_at" k 2 d_l_cell_at) : Cl P w K mg base "_law_mixed" (k + 1) 2 d_l_mixed :=
  cl_of F sc_l_mixed (bd_l_mixed F) m fun cdv A outer s H E hr =>
    (b_cons (s_asg 2 sc_l_mixed.nd (q_mod (v2r (q_mul (v2r (q_add (v2r (q_add (v2r (q_callC c_l_cell_at hr (a_consV (q_nmV 0) (a_consV (q_nmV 1) a_nilV)))) (v2r (q_mul (v2r q_int) (q_nm 1))))) (v2r q_int))) (v2r q_int))) (v2r q_int)))
    (b_one (s_ret (v2r (q_mod (v2r (q_add (v2r (q_add (v2r (q_mul (q_nm 2) (q_nm 2))) (v2r (q_mul (v2r q_int) (q_nm 2))))) (q_nm 1))) (v2r q_int))))))
abbrev s_l_drawn : Stmt := top 14
theorem sc_l_drawn : FnScope ["_law_number", "_law_k", "_law_drawn_here"] ["_law_number", "_law_k"] (defScope s_l_drawn) := ⟨rfl, rfl, rfl, by decide +kernel, rfl, by decide +kernel, by decide +kernel⟩
theorem bd_l_drawn {K : PySem.W.Frag} {f : Addr} {fd : FuncData} (F : Fun K "_law_drawn" "_law_drawn" s_l_drawn f fd) : Binds K fd ["_law_number", "_law_k"] [] := F.binds (ps := ["_law_number", "_law_k"]) fun _ _ _ _ _ _ us hl => match us, hl with | [_, _], _ => rfl
theorem c_l_drawn {k : Nat} {f : Addr} {fd : FuncData} (F : Fun K "_law_drawn" "_law_drawn" s_l_drawn f fd) (m : mg "_law_drawn" = some (.ref f))  : Cl P w K mg base "_law_drawn" (k + 1) 2 d_l_drawn :=
  cl_of F sc_l_drawn (bd_l_drawn F) m fun cdv A outer s H E hr =>
    (b_cons (s_asg 2 sc_l_drawn.nd (q_mod (v2r (q_mul (v2r (q_add (v2r (q_add (q_nm 0) (v2r (q_mul (v2r q_int) (q_nm 1))))) (v2r q_int))) (v2r q_int))) (v2r q_int)))
    (b_one (s_ret (v2r (q_mod (v2r (q_add (v2r (q_add (v2r (q_mul (q_nm 2) (q_nm 2))) (v2r (q_mul (v2r q_int) (q_nm 2))))) (q_nm 1))) (v2r q_int))))))
abbrev s_l_house : Stmt := top 15
theorem sc_l_house : FnScope ["_law_number", "_law_rooms", "_law_openings", "_law_k", "_law_drawn_here", "_law_one", "_law_other", "_law_zone"] ["_law_number"] (defScope s_l_house) := ⟨rfl, rfl, rfl, by decide +kernel, rfl, by decide +kernel, by decide +kernel⟩
theorem bd_l_house {K : PySem.W.Frag} {f : Addr} {fd : FuncData} (F : Fun K "_law_house" "_law_house" s_l_house f fd) : Binds K fd ["_law_number"] [] := F.binds (ps := ["_law_number"]) fun _ _ _ _ _ _ us hl => match us, hl with | [_], _ => rfl
theorem c_l_house {k : Nat} {f : Addr} {fd : FuncData} (F : Fun K "_law_house" "_law_house" s_l_house f fd) (m : mg "_law_house" = some (.ref f)) (z_range : mg "range" = none) (c_l_drawn : Cl P w K mg base "_law_drawn" k 2 d_l_drawn) (z_min : mg "min" = none) (z_max : mg "max" = none) : Cl P w K mg base "_law_house" (k + 1) 1 d_l_house :=
  cl_of F sc_l_house (bd_l_house F) m fun cdv A outer s H E hr =>
    (b_cons (s_asg 1 sc_l_house.nd (q_add (v2r q_int) (v2r (q_mod (q_nm 0) (v2r q_int)))))
    (b_cons (s_asg 2 sc_l_house.nd (q_tup a_nilV))
    (b_cons (s_for PassesOwn.never (i_rng1 z_range (v2r (q_mod (v2r (q_div (q_nm 0) (v2r q_int))) (v2r q_int)))) (g_nm 3 sc_l_house.nd)
    (b_cons (s_asg 4 sc_l_house.nd (q_div (v2r (q_callC c_l_drawn hr (a_consV (q_nmV 0) (a_consV (q_add (v2r q_int) (q_nm 3)) a_nilV)))) (v2r q_int)))
    (b_cons (s_asg 5 sc_l_house.nd (q_mod (q_nm 4) (v2r (q_add (q_nm 1) (v2r q_int)))))
    (b_cons (s_asg 6 sc_l_house.nd (q_mod (v2r (q_add (v2r (q_add (q_nm 5) (v2r q_int))) (v2r (q_mod (v2r (q_div (q_nm 4) (v2r q_int))) (q_nm 1))))) (v2r (q_add (q_nm 1) (v2r q_int)))))
    (b_cons (s_asg 7 sc_l_house.nd (q_ix (v2r (q_tup (a_consV q_non (a_consV q_non (a_consV q_str (a_consV q_str (a_consV q_str (a_consV q_str (a_consV q_str a_nilV))))))))) (v2r (q_mod (v2r (q_div (q_nm 4) (v2r q_int))) (v2r q_int)))))
    (b_one (s_asg 2 sc_l_house.nd (q_add (q_nm 2) (v2r (q_tup (a_consV (q_tup (a_consV (q_min z_min (a_consR (q_nm 5) (a_consR (q_nm 6) a_nilR))) (a_consV (q_max z_max (a_consR (q_nm 5) (a_consR (q_nm 6) a_nilR))) (a_consV (q_nmV 7) a_nilV)))) a_nilV)))))))))))
    (b_one (s_ret (v2r (q_tup (a_consV (q_nmV 1) (a_consV (q_nmV 2) a_nilV)))))))))
abbrev s_l_sets : Stmt := top 16
theorem sc_l_sets : FnScope ["_law_many", "_law_found", "_law_number"] ["_law_many"] (defScope s_l_sets) := ⟨rfl, rfl, rfl, by decide +kernel, rfl, by decide +kernel, by decide +kernel⟩
theorem bd_l_sets {K : PySem.W.Frag} {f : Addr} {fd : FuncData} (F : Fun K "_law_sets" "_law_sets" s_l_sets f fd) : Binds K fd ["_law_many"] [] := F.binds (ps := ["_law_many"]) fun _ _ _ _ _ _ us hl => match us, hl with | [_], _ => rfl
theorem c_l_sets {k : Nat} {f : Addr} {fd : FuncData} (F : Fun K "_law_sets" "_law_sets" s_l_sets f fd) (m : mg "_law_sets" = some (.ref f)) (z_range : mg "range" = none) : Cl P w K mg base "_law_sets" (k + 1) 1 d_l_sets :=
  cl_of F sc_l_sets (bd_l_sets F) m fun cdv A outer s H E hr =>
    (b_cons (s_asg 1 sc_l_sets.nd (q_lstV (a_consV (q_tup a_nilV) a_nilV)))
    (b_cons (s_for PassesOwn.never (i_rng1 z_range (q_nm 0)) (g_nm 2 sc_l_sets.nd)
    (b_one (s_asg 1 sc_l_sets.nd (q_add (q_nm 1) (v2r (q_compV (own := ["_law_some"]) (caps := [(2, "_law_number")]) (compOk (sc := defScope s_l_sets) ["_law_many", "_law_found", "_law_number"] rfl rfl rfl (by decide +kernel)) (i_seq (q_nmV 1)) (fun _ _ _ _ _ _ => (g_nm 0 (show List.Nodup (["_law_some", "_law_number"] : List Str) by decide +kernel))) (fun _ _ _ _ _ _ => ts_nil) (fun _ _ _ _ _ _ => (q_add (q_nm 0) (v2r (q_tup (a_consV (q_nmV 1) a_nilV)))))))))))
    (b_one (s_ret (q_nm 1)))))
abbrev s_law : Stmt := top 17
theorem sc_law : FnScope ["_law_script", "_law_house_here", "_law_room", "_law_some", "_law_best", "_law_one", "_law_rows", "_law_way", "_law_more", "_law_row", "_law_used", "_law_many"] ["_law_script"] (defScope s_law) := ⟨rfl, rfl, rfl, by decide +kernel, rfl, by decide +kernel, by decide +kernel⟩
theorem f_law {k : Nat} {f : Addr} {fd : FuncData} (F : Fun K "law" "law" s_law f fd) (c_l_house : Cl P w K mg base "_law_house" k 1 d_l_house) (c_ways : Cl P w K mg base "ways" k 2 d_ways) (c_l_sets : Cl P w K mg base "_law_sets" k 1 d_l_sets) (z_max : mg "max" = none) (c_l_mixed : Cl P w K mg base "_law_mixed" k 2 d_l_mixed) (z_len : mg "len" = none) (c_fewest : Cl P w K mg base "fewest" k 2 d_fewest) (c_apart : Cl P w K mg base "apart" k 2 d_apart) (z_min : mg "min" = none) (z_list : mg "list" = none) : FnOk P w K mg base CX0 (k + 1) f fd ["_law_script"] (spT K 1 d_law) :=
  fun_ok F sc_law fun cdv A outer s H E hr =>
    (b_cons (s_asg 1 sc_law.nd (q_callC c_l_house hr (a_consV (q_callC c_l_mixed hr (a_consV (q_nmV 0) (a_consV q_int a_nilV))) a_nilV)))
    (b_cons (s_asg 1 sc_law.nd (q_tup (a_consV (q_ix (q_nm 1) (v2r q_int)) (a_consV (q_slice (v2r (q_ix (q_nm 1) (v2r q_int))) o_none (o_some (v2r q_int))) a_nilV))))
    (b_cons (s_asg 2 sc_law.nd (q_add (v2r q_int) (v2r (q_mod (v2r (q_callC c_l_mixed hr (a_consV (q_nmV 0) (a_consV q_int a_nilV)))) (v2r (q_ix (q_nm 1) (v2r q_int)))))))
    (b_cons (s_asg 3 sc_law.nd (q_callC c_ways hr (a_consV (q_nmV 1) (a_consV (q_nmV 2) a_nilV))))
    (b_cons (s_asg 4 sc_law.nd q_non)
    (b_cons (s_for PassesOwn.never (i_seq (q_callC c_l_sets hr (a_consV (q_len z_len (a_consR (v2r (q_ix (q_nm 1) (v2r q_int))) a_nilR)) a_nilV))) (g_nm 5 sc_law.nd)
    (b_one (s_if (t_cmp (op_eqT (by exact hr.units)) op2_eq (v2r (q_compV (own := ["_law_way"]) (caps := [(5, "_law_one")]) (compOk (sc := defScope s_law) ["_law_script", "_law_house_here", "_law_room", "_law_some", "_law_best", "_law_one", "_law_rows", "_law_way", "_law_more", "_law_row", "_law_used", "_law_many"] rfl rfl rfl (by decide +kernel)) (i_seq (q_nmV 3)) (fun _ _ _ _ _ _ => (g_nm 0 (show List.Nodup (["_law_way", "_law_one"] : List Str) by decide +kernel))) (fun _ _ _ _ _ _ => by exact (ts_one (t_cmp (op_eqT (by exact hr.units)) op2_eq (v2r (q_compV (own := ["_law_number"]) (caps := [(1, "_law_one")]) (compOk2 (sc0 := defScope s_law) ["_law_way", "_law_one"] rfl rfl rfl (by decide +kernel)) (i_seq (q_nmV 0)) (fun _ _ _ _ _ _ => (g_nm 0 (show List.Nodup (["_law_number", "_law_one"] : List Str) by decide +kernel))) (fun _ _ _ _ _ _ => (ts_one (t_cmp (op_inT (by exact hr.units)) op2_in (q_nm 0) (q_nm 1)))) (fun _ _ _ _ _ _ => (q_nmV 0)))) (v2r (q_lstV a_nilV))))) (fun _ _ _ _ _ _ => by exact (q_nmV 0)))) (v2r (q_lstV a_nilV))) (b_one (s_if (w_t (w_or (t_isN (q_nm 4)) (w_or1 (t_cmp (op_ltD (by exact hr.units)) op2_ltD (v2r (q_tup (a_consV (q_len z_len (a_consR (q_nm 5) a_nilR)) (a_consV (q_nmV 5) a_nilV)))) (q_nm 4))))) (b_one (s_asg 4 sc_law.nd (q_tup (a_consV (q_len z_len (a_consR (q_nm 5) a_nilR)) (a_consV (q_nmV 5) a_nilV))))) b_nil)) b_nil)))
    (b_cons (s_if (t_cmp (op_neT (by exact hr.units)) op2_ne (v2r (q_callC c_fewest hr (a_consV (q_nmV 1) (a_consV (q_nmV 2) a_nilV)))) (v2r (q_ix (q_nm 4) (v2r q_int)))) (b_one (s_ret (v2r q_bl))) b_nil)
    (b_cons (s_asg 6 sc_law.nd (q_lstV (a_consV (q_tup a_nilV) a_nilV)))
    (b_cons (s_for PassesOwn.never (i_seq (q_nmV 3)) (g_nm 7 sc_law.nd)
    (b_cons (s_asgN 8 sc_law.nd (q_lst a_nilV))
    (b_cons (s_for PassesOwn.never (i_seq (q_nmV 6)) (g_nm 9 sc_law.nd)
    (b_cons (s_asg 10 sc_law.nd (q_lstV a_nilV))
    (b_cons (s_for PassesOwn.never (i_seq (q_nmV 9)) (g_nm 5 sc_law.nd)
    (b_one (s_asg 10 sc_law.nd (q_add (q_nm 10) (v2r (q_list z_list (a_consR (q_nm 5) a_nilR)))))))
    (b_one (s_if (t_cmp (op_eqT (by exact hr.units)) op2_eq (v2r (q_compV (own := ["_law_number"]) (caps := [(10, "_law_used")]) (compOk (sc := defScope s_law) ["_law_script", "_law_house_here", "_law_room", "_law_some", "_law_best", "_law_one", "_law_rows", "_law_way", "_law_more", "_law_row", "_law_used", "_law_many"] rfl rfl rfl (by decide +kernel)) (i_seq (q_nmV 7)) (fun _ _ _ _ _ _ => (g_nm 0 (show List.Nodup (["_law_number", "_law_used"] : List Str) by decide +kernel))) (fun _ _ _ _ _ _ => (ts_one (t_cmp (op_inT (by exact hr.units)) op2_in (q_nm 0) (q_nm 1)))) (fun _ _ _ _ _ _ => (q_nmV 0)))) (v2r (q_lstV a_nilV))) (b_one (s_app 8 (q_add (q_nm 9) (v2r (q_tup (a_consV (q_nmV 7) a_nilV)))))) b_nil)))))
    (b_one (s_asg 6 sc_law.nd (q_add (q_nm 6) (q_nm 8)))))))
    (b_cons (s_asg 11 sc_law.nd (q_maxL rfl z_max (a_consR (v2r (q_compV (own := ["_law_row"]) (caps := []) (compOk (sc := defScope s_law) ["_law_script", "_law_house_here", "_law_room", "_law_some", "_law_best", "_law_one", "_law_rows", "_law_way", "_law_more", "_law_row", "_law_used", "_law_many"] rfl rfl rfl (by decide +kernel)) (i_seq (q_nmV 6)) (fun _ _ _ _ _ _ => (g_nm 0 (show List.Nodup (["_law_row"] : List Str) by decide +kernel))) (fun _ _ _ _ _ _ => ts_nil) (fun _ _ _ _ _ _ => (q_len z_len (a_consR (q_nm 0) a_nilR))))) a_nilR)))
    (b_one (s_ret (v2r (q_cmp (op_eqT (by exact hr.units)) op2_eq (v2r (q_callC c_apart hr (a_consV (q_nmV 1) (a_consV (q_nmV 2) a_nilV)))) (v2r (q_minD rfl (by exact hr.units) z_min (a_consR (v2r (q_compV (own := ["_law_row"]) (caps := [(11, "_law_many")]) (compOk (sc := defScope s_law) ["_law_script", "_law_house_here", "_law_room", "_law_some", "_law_best", "_law_one", "_law_rows", "_law_way", "_law_more", "_law_row", "_law_used", "_law_many"] rfl rfl rfl (by decide +kernel)) (i_seq (q_nmV 6)) (fun _ _ _ _ _ _ => (g_nm 0 (show List.Nodup (["_law_row", "_law_many"] : List Str) by decide +kernel))) (fun _ _ _ _ _ _ => (ts_one (t_cmp (op_eqT (by exact hr.units)) op2_eq (v2r (q_len z_len (a_consR (q_nm 0) a_nilR))) (q_nm 1)))) (fun _ _ _ _ _ _ => (q_nmV 0)))) a_nilR)))))))))))))))))
end
end K21
end
section
set_option linter.all false
set_option maxHeartbeats 4000000
namespace K21
open PySem D Ho Wo
/-! ### trees -/
theorem okT_intsL (ns : List Int) : okT (.list (ns.map .int)) = true := by
  have := okL_ints ns
  simp [okT, PyData.canLay0, PyData.depth, this.1]
  omega
theorem oEq_intsL (ns ms : List Int) : oEq (.list (ns.map .int)) (.list (ms.map .int)) = some (.bool (decide (ns = ms))) := by
  unfold oEq
  rw [okT_intsL, okT_intsL, PyData.eqv, eqvAll_ints]
  rfl
theorem ok_way (w : List Nat) : (wT w).canLay0 = true ∧ (wT w).depth ≤ 2 := by
  have hi := okL_ints (cstN w)
  rw [wT_cast]
  simp only [PyData.canLay0, PyData.depth, hi.1, true_and]
  have := hi.2
  omega
theorem ok_ways : ∀ ws : List (List Nat), PyData.canLayAll0 (ws.map wT) = true ∧ PyData.depthAll (ws.map wT) ≤ 2
  | [] => by simp [PyData.canLayAll0, PyData.depthAll]
  | w :: ws => by
    have h1 := ok_way w
    have h2 := ok_ways ws
    simp only [List.map_cons, PyData.canLayAll0, PyData.depthAll, h1.1, h2.1, Bool.and_self, true_and]
    have := h1.2
    have := h2.2
    omega
def rwT (B : List (List Nat)) : T := .tuple (B.map wT)
theorem ok_row (B : List (List Nat)) : (rwT B).canLay0 = true ∧ (rwT B).depth ≤ 3 := by
  have h := ok_ways B
  simp only [rwT, PyData.canLay0, PyData.depth, h.1, true_and]
  have := h.2
  omega
theorem ok_rows : ∀ Bs : List (List (List Nat)), PyData.canLayAll0 (Bs.map rwT) = true ∧ PyData.depthAll (Bs.map rwT) ≤ 3
  | [] => by simp [PyData.canLayAll0, PyData.depthAll]
  | B :: Bs => by
    have h1 := ok_row B
    have h2 := ok_rows Bs
    simp only [List.map_cons, PyData.canLayAll0, PyData.depthAll, h1.1, h2.1, Bool.and_self, true_and]
    have := h1.2
    have := h2.2
    omega
theorem okT_waysL (ws : List (List Nat)) : okT (.list (ws.map wT)) = true := by
  have := ok_ways ws
  simp [okT, PyData.canLay0, PyData.depth, this.1]
  omega
theorem okT_row (B : List (List Nat)) : okT (rwT B) = true := by
  have := ok_row B
  simp [okT, this.1]
  omega
theorem okT_wayT (w : List Nat) : okT (wT w) = true := by
  have := ok_way w
  simp [okT, this.1]
  omega
theorem cast_inj : ∀ {x y : List Nat}, cstN x = cstN y → x = y
  | [], [], _ => rfl
  | [], _ :: _, h => by simp [cstN] at h
  | _ :: _, [], h => by simp [cstN] at h
  | a :: x, b :: y, h => by
    simp only [cstN, List.map_cons, List.cons.injEq] at h
    have h1 : a = b := by omega
    rw [h1, cast_inj (show cstN x = cstN y from h.2)]
theorem eqv_way (x y : List Nat) : PyData.eqv (wT x) (wT y) = decide (x = y) := by
  rw [wT_cast, wT_cast, eqv_ints]
  exact decide_eq_decide.mpr ⟨cast_inj, fun h => by rw [h]⟩
theorem eqvAll_ways : ∀ B D : List (List Nat), PyData.eqvAll (B.map wT) (D.map wT) = decide (B = D)
  | [], [] => rfl
  | [], _ :: _ => rfl
  | _ :: _, [] => rfl
  | x :: B, y :: D => by
    rw [List.map_cons, List.map_cons, PyData.eqvAll, eqv_way, eqvAll_ways B D]
    by_cases h1 : x = y <;> by_cases h2 : B = D <;> simp [h1, h2]
theorem eqv_row (B D : List (List Nat)) : PyData.eqv (rwT B) (rwT D) = decide (B = D) := by rw [rwT, rwT, PyData.eqv, eqvAll_ways]
theorem oEq_nilL (ws : List (List Nat)) : oEq (.list (ws.map wT)) (.list []) = some (.bool ws.isEmpty) := by
  unfold oEq
  rw [okT_waysL, show okT (.list []) = true from okT_waysL []]
  cases ws <;> rfl
theorem oNe_way (x y : List Nat) : oNe (wT x) (wT y) = some (.bool (!decide (x = y))) := by
  unfold oNe
  rw [okT_wayT, okT_wayT, eqv_way]
  rfl
theorem oEq_row (B D : List (List Nat)) : oEq (rwT B) (rwT D) = some (.bool (decide (B = D))) := by
  unfold oEq
  rw [okT_row, okT_row, eqv_row]
  rfl
theorem lexD_ints : ∀ xs ys : List Int, lexD (xs.map .int) (ys.map .int) = some (ltL xs ys)
  | [], [] => by simp [lexD, ltL]
  | [], _ :: _ => by simp [lexD, ltL]
  | _ :: _, [] => by simp [lexD, ltL]
  | a :: x, b :: y => by
    have ih := lexD_ints x y
    simp only [List.map_cons, lexD, ltL, PyData.eqv]
    by_cases h : a = b
    · subst h
      simp [ih]
    · have : (a == b) = false := by simpa using h
      simp [this, h, ltD]
def ltN (x y : List Nat) : Bool := ltL (cstN x) (cstN y)
theorem ltD_way (x y : List Nat) : ltD (wT x) (wT y) = some (ltN x y) := by
  rw [wT_cast, wT_cast]
  simp only [ltD, lexD_ints, ltN]
def ltK (x y : List Nat) : Bool := decide (x.length < y.length) || (decide (x.length = y.length) && ltN x y)
def pT (x : List Nat) : T := .tuple [.int x.length, wT x]
theorem ltN_irr (x : List Nat) : ltN x x = false := ltL_irr _
theorem ltD_pair (x y : List Nat) : ltD (pT x) (pT y) = some (ltK x y) := by
  simp only [pT, ltD, lexD, PyData.eqv, eqv_way, ltD_way, ltK]
  by_cases h : x.length = y.length
  · have e : ((x.length : Int) == (y.length : Int)) = true := by simp [h]
    simp only [e, if_true, h, Nat.lt_irrefl, decide_false, Bool.false_or, decide_true, Bool.true_and]
    by_cases q : x = y
    · subst q
      simp [ltN_irr]
    · simp [q]
  · have e : ((x.length : Int) == (y.length : Int)) = false := by simp; omega
    simp only [e, Bool.false_eq_true, if_false, h, decide_false, Bool.false_and, Bool.or_false]
    congr 1
    exact decide_eq_decide.mpr (by omega)
theorem okT_pair (x : List Nat) : okT (pT x) = true := by
  have := ok_way x
  simp [okT, pT, PyData.canLay0, PyData.depth, PyData.canLayAll0, PyData.depthAll, this.1]
  omega
def ltR : List (List Nat) → List (List Nat) → Bool
  | [], [] => false
  | [], _ :: _ => true
  | _ :: _, [] => false
  | x :: B, y :: D => if x = y then ltR B D else ltN x y
theorem ltD_row : ∀ B D : List (List Nat), lexD (B.map wT) (D.map wT) = some (ltR B D)
  | [], [] => by simp [lexD, ltR]
  | [], _ :: _ => by simp [lexD, ltR]
  | _ :: _, [] => by simp [lexD, ltR]
  | x :: B, y :: D => by
    simp only [List.map_cons, lexD, eqv_way, ltR, ltD_row B D, ltD_way]
    by_cases h : x = y <;> simp [h]
theorem lx_ltN : ∀ {x y : List Nat}, Hg.Lx (· < ·) x y → ltN x y = true
  | _, _, .nil => rfl
  | _, _, .head h => by
    simp only [ltN, cstN, List.map_cons, ltL, Bool.or_eq_true, decide_eq_true_eq]
    exact .inl (by omega)
  | _, _, .tail h => by
    have := lx_ltN h
    unfold ltN cstN at this
    simp [ltN, cstN, ltL, this]
theorem lt_ltN : ∀ {x y : List Nat}, x < y → ltN x y = true
  | [], [], h => by cases h
  | [], _ :: _, _ => rfl
  | _ :: _, [], h => by cases h
  | a :: x, b :: y, h => by
    rcases List.cons_lt_cons_iff.mp h with q | ⟨q1, q2⟩
    · have : (a : Int) < b := by omega
      simp [ltN, cstN, ltL, this]
    · have := lt_ltN q2
      unfold ltN cstN at this
      simp [ltN, cstN, ltL, q1, this]
theorem lx_ltR : ∀ {B D : List (List Nat)}, Hg.Lx (· < ·) B D → ltR B D = true ∧ ltR D B = false
  | _, _, .nil => ⟨rfl, rfl⟩
  | _, _, .head (a := a) (b := b) h => by
    have h1 := lt_ltN h
    have h2 : ltN b a = false := ltL_asym h1
    have hne : a ≠ b := fun e => by subst e; exact List.lt_irrefl _ h
    have hne' : b ≠ a := Ne.symm hne
    simp [ltR, hne, hne', h1, h2]
  | _, _, .tail h => by
    have := lx_ltR h
    simp [ltR, this]
/-! ### all sets -/
def setsL : Nat → List (List Nat)
  | 0 => [[]]
  | n + 1 => setsL n ++ (setsL n).map fun s => s ++ [n]
theorem sets_len : ∀ n, (setsL n).length = 2 ^ n
  | 0 => rfl
  | n + 1 => by
    simp only [setsL, List.length_append, List.length_map, sets_len n, Nat.pow_succ]
    omega
theorem sub_snoc {α : Type} {D l : List α} {a : α} : D.Sublist (l ++ [a]) ↔ D.Sublist l ∨ ∃ D', D = D' ++ [a] ∧ D'.Sublist l := by
  rw [List.sublist_append_iff]
  constructor
  · rintro ⟨l1, l2, rfl, h1, h2⟩
    cases h2 with
    | cons _ h =>
      have : l2 = [] := List.sublist_nil.mp h
      subst this
      exact .inl (by simpa using h1)
    | @cons_cons l3 _ _ h =>
      have : l3 = [] := List.sublist_nil.mp h
      subst this
      exact .inr ⟨l1, rfl, h1⟩
  · rintro (h | ⟨D', rfl, h⟩)
    · exact ⟨D, [], by simp, h, List.nil_sublist _⟩
    · exact ⟨D', [a], rfl, h, List.Sublist.refl _⟩
theorem sets_mem : ∀ (n : Nat) (D : List Nat), D ∈ setsL n ↔ D.Sublist (List.range n)
  | 0, D => by simp [setsL]
  | n + 1, D => by
    rw [setsL, List.mem_append, List.mem_map, List.range_succ, sub_snoc, sets_mem n]
    constructor
    · rintro (h | ⟨s, h1, h2⟩)
      · exact .inl h
      · exact .inr ⟨s, h2.symm, (sets_mem n s).mp h1⟩
    · rintro (h | ⟨s, h1, h2⟩)
      · exact .inl h
      · exact .inr ⟨s, (sets_mem n s).mpr h2, h1.symm⟩
theorem sets_small {n : Nat} {D : List Nat} (h : D ∈ setsL n) : D.length ≤ n := by
  have := ((sets_mem n D).mp h).length_le
  simpa using this
def bSet : Fs := (asg 1 (op2 oAdd (nm 1) (comp 1 [2] (itSeq (nmV 1)) (gNm 0) (cstT true) (op2 oAdd (nm 0) (mkTup [(nmV 1)])))))
theorem comp_snoc (n : Nat) : ∀ (fs : List (List Nat)) (j : Option Sl), (∀ s ∈ fs, s.length ≤ 100) → compL (gNm 0) (cstT true) (op2 oAdd (nm 0) (mkTup [(nmV 1)])) (fs.map wT) [j, some (.imm (.int n))] = some ((fs.map fun s => s ++ [n]).map wT)
  | [], j, _ => rfl
  | s :: fs, j, h => by
    have ih := comp_snoc n fs (some (.imm (wT s))) fun s hs => h s (by simp [hs])
    have hl := h s (by simp)
    have e0 : gNm 0 (wT s) [j, some (.imm (.int n))] = some [some (.imm (wT s)), some (.imm (.int n))] := rfl
    have x : op2 oAdd (nm 0) (mkTup [(nmV 1)]) [some (.imm (wT s)), some (.imm (.int n))] = some (wT (s ++ [n])) :=
      (op2_of (f := nm 0) (x := wT s) rfl (mkTup_of (args1 rfl) (by simp)) (tup_add (by simp; omega))).trans (by simp [wT])
    simp only [List.map_cons, compL, e0, Option.bind_some, cstT, if_true, x, ih, Option.map_some]
theorem set_loop (M : Nat) : ∀ (m k : Nat) (j2 : Option Sl), k + m ≤ 12 → ∃ j2', forL (gNm 2) bSet ((List.range' k m).map fun (k : Nat) => PyData.int (k : Int)) [some (.imm (.int M)), some (.imm (.list ((setsL k).map wT))), j2] = some (.nx [some (.imm (.int M)), some (.imm (.list ((setsL (k + m)).map wT))), j2'])
  | 0, k, j2, _ => ⟨j2, rfl⟩
  | m + 1, k, j2, h => by
    obtain ⟨j2', ih⟩ := set_loop M m (k + 1) (some (.imm (.int k))) (by omega)
    refine ⟨j2', ?_⟩
    have hp : 2 ^ k ≤ 2 ^ 12 := Nat.pow_le_pow_right (by decide) (by omega)
    have hl : (setsL k).length ≤ 4096 := by rw [sets_len]; exact hp
    have e0 : gNm 2 (.int k) [some (.imm (.int M)), some (.imm (.list ((setsL k).map wT))), j2] = some [some (.imm (.int M)), some (.imm (.list ((setsL k).map wT))), some (.imm (.int k))] := rfl
    have hc : comp 1 [2] (itSeq (nmV 1)) (gNm 0) (cstT true) (op2 oAdd (nm 0) (mkTup [(nmV 1)])) [some (.imm (.int M)), some (.imm (.list ((setsL k).map wT))), some (.imm (.int k))] = some (.list (((setsL k).map fun s => s ++ [k]).map wT)) := by
      have it : itSeq (nmV 1) [some (.imm (.int M)), some (.imm (.list ((setsL k).map wT))), some (.imm (.int k))] = some ((setsL k).map wT) := rfl
      have hcap : capEnv 1 [2] [some (.imm (.int M)), some (.imm (.list ((setsL k).map wT))), some (.imm (.int k))] = [none, some (.imm (.int k))] := rfl
      simp only [comp, it, Option.bind_some, hcap, List.length_map]
      rw [if_pos (by unfold big; omega), comp_snoc k _ none fun s hs => by have := sets_small hs; omega]
      rfl
    have ha : op2 oAdd (nm 1) (comp 1 [2] (itSeq (nmV 1)) (gNm 0) (cstT true) (op2 oAdd (nm 0) (mkTup [(nmV 1)]))) [some (.imm (.int M)), some (.imm (.list ((setsL k).map wT))), some (.imm (.int k))] = some (.list ((setsL (k + 1)).map wT)) := by
      refine (op2_of (f := nm 1) rfl hc (show oAdd (.list ((setsL k).map wT)) (.list (((setsL k).map fun s => s ++ [k]).map wT)) = some (.list ((setsL k).map wT ++ ((setsL k).map fun s => s ++ [k]).map wT)) from if_pos (by unfold big; simp; omega))).trans ?_
      rw [setsL, List.map_append]
    have st : bSet [some (.imm (.int M)), some (.imm (.list ((setsL k).map wT))), some (.imm (.int k))] = some (.nx [some (.imm (.int M)), some (.imm (.list ((setsL (k + 1)).map wT))), some (.imm (.int k))]) := asg_of ha
    rw [List.range'_succ, List.map_cons, forL_nx e0 st, ih, show k + 1 + m = k + (m + 1) from by omega]
theorem sets_eq (M : Nat) (hM : M ≤ 10) : d_l_sets [.int M] = some (.list ((setsL M).map wT)) := by
  have e0 : d_l_sets [.int M] = (b_l_sets [some (.imm (.int M)), none, none]).bind fun o => match o with | .rt t => some t | .nx _ => some .none | _ => none := rfl
  rw [e0]
  have s1 : asg 1 (mkLst [(mkTup [])]) [some (.imm (.int M)), none, none] = some (.nx [some (.imm (.int M)), some (.imm (.list ((setsL 0).map wT))), none]) := by
    simp [asg, mkLst, mkTup, args, big, setsL, wT]
  obtain ⟨j2, hl⟩ := set_loop M M 0 none (by omega)
  have it : itRng1 (nm 0) [some (.imm (.int M)), some (.imm (.list ((setsL 0).map wT))), none] = some ((List.range' 0 M).map fun (k : Nat) => PyData.int (k : Int)) := by
    rw [it_rng (f := nm 0) (j := M) rfl (by omega) (by omega), rng_nat, List.range_eq_range']
  have hf : for_ (itRng1 (nm 0)) (gNm 2) bSet [some (.imm (.int M)), some (.imm (.list ((setsL 0).map wT))), none] = some (.nx [some (.imm (.int M)), some (.imm (.list ((setsL M).map wT))), j2]) := by
    simp only [for_, it, Option.bind_some]
    rw [hl, Nat.zero_add]
  have r : b_l_sets [some (.imm (.int M)), none, none] = some (.rt (.list ((setsL M).map wT))) := by
    unfold bSet at hf
    unfold b_l_sets
    rw [seq_nx s1, seq_nx hf]
    rfl
  rw [r]
  rfl
/-! ### the best set -/
def envL (s h : T) (room : Int) (ths : List (List Nat)) (j4 j5 j6 j7 j8 j9 j10 j11 : Option Sl) : Ev := [some (.imm s), some (.imm h), some (.imm (.int room)), some (.imm (.tuple (ths.map wT))), j4, j5, j6, j7, j8, j9, j10, j11]
theorem comp_in (one : List Nat) : ∀ (w : List Nat) (j : Option Sl), compL (gNm 0) (tstB (op2 (oIn false) (nm 0) (nm 1))) (nmV 0) (w.map fun (k : Nat) => PyData.int (k : Int)) [j, some (.imm (wT one))] = some ((cstN (w.filter fun k => decide (k ∈ one))).map .int)
  | [], j => rfl
  | k :: w, j => by
    have ih := comp_in one w (some (.imm (.int k)))
    have e0 : gNm 0 (.int k) [j, some (.imm (wT one))] = some [some (.imm (.int k)), some (.imm (wT one))] := rfl
    have c : tstB (op2 (oIn false) (nm 0) (nm 1)) [some (.imm (.int k)), some (.imm (wT one))] = some (decide (k ∈ one)) := tstB_of (op2_of rfl rfl (oIn_way false k one))
    have v : nmV 0 [some (.imm (.int k)), some (.imm (wT one))] = some (.int k) := rfl
    by_cases h : k ∈ one
    · simp only [List.map_cons, compL, e0, c, Option.bind_some, h, decide_true, if_true, v, ih, List.filter_cons, Option.map_some]
      rfl
    · simp only [List.map_cons, compL, e0, c, Option.bind_some, h, decide_false, Bool.false_eq_true, if_false, ih, List.filter_cons]
def missB (one w : List Nat) : Bool := decide (w.filter (fun k => decide (k ∈ one)) = [])
theorem comp_miss (one : List Nat) : ∀ (ths : List (List Nat)) (j : Option Sl), (∀ w ∈ ths, w.length ≤ 1000) → compL (gNm 0) (tstB (op2 oEq (comp 1 [1] (itSeq (nmV 0)) (gNm 0) (tstB (op2 (oIn false) (nm 0) (nm 1))) (nmV 0)) (mkLst []))) (nmV 0) (ths.map wT) [j, some (.imm (wT one))] = some ((ths.filter (missB one)).map wT)
  | [], j, _ => rfl
  | w :: ths, j, h => by
    have ih := comp_miss one ths (some (.imm (wT w))) fun w hw => h w (by simp [hw])
    have hl := h w (by simp)
    have e0 : gNm 0 (wT w) [j, some (.imm (wT one))] = some [some (.imm (wT w)), some (.imm (wT one))] := rfl
    have hc : comp 1 [1] (itSeq (nmV 0)) (gNm 0) (tstB (op2 (oIn false) (nm 0) (nm 1))) (nmV 0) [some (.imm (wT w)), some (.imm (wT one))] = some (.list ((cstN (w.filter fun k => decide (k ∈ one))).map .int)) := by
      have it : itSeq (nmV 0) [some (.imm (wT w)), some (.imm (wT one))] = some (w.map fun (k : Nat) => PyData.int (k : Int)) := rfl
      have hcap : capEnv 1 [1] [some (.imm (wT w)), some (.imm (wT one))] = [none, some (.imm (wT one))] := rfl
      simp only [comp, it, Option.bind_some, hcap, comp_in, List.length_map]
      rw [if_pos (by unfold big; omega)]
      rfl
    have c : tstB (op2 oEq (comp 1 [1] (itSeq (nmV 0)) (gNm 0) (tstB (op2 (oIn false) (nm 0) (nm 1))) (nmV 0)) (mkLst [])) [some (.imm (wT w)), some (.imm (wT one))] = some (missB one w) := by
      have := tstB_of (op2_of (o := oEq) hc (g := mkLst []) (y := .list (([] : List Int).map .int)) (by simp [mkLst, args, big]) (oEq_intsL _ []))
      rw [this]
      congr 1
      exact decide_eq_decide.mpr (by simp [cstN])
    have v : nmV 0 [some (.imm (wT w)), some (.imm (wT one))] = some (wT w) := rfl
    cases hm : missB one w with
    | true => rw [hm] at c; simp only [List.map_cons, compL, e0, c, Option.bind_some, if_true, v, ih, List.filter_cons, hm, Option.map_some]
    | false => rw [hm] at c; simp only [List.map_cons, compL, e0, c, Option.bind_some, Bool.false_eq_true, if_false, ih, List.filter_cons, hm]
def hitB (ths : List (List Nat)) (one : List Nat) : Bool := (ths.filter (missB one)).isEmpty
theorem hitB_iff {ths : List (List Nat)} {one : List Nat} : hitB ths one = true ↔ Hg.Hits one ths := by
  unfold hitB Hg.Hits
  rw [List.isEmpty_iff, List.filter_eq_nil_iff]
  refine forall_congr' fun w => imp_congr_right fun _ => ?_
  unfold missB
  rw [decide_eq_true_eq, List.filter_eq_nil_iff]
  simp
def bT : Option (List Nat) → T
  | none => .none
  | some c => pT c
def nextB (ths : List (List Nat)) (best : Option (List Nat)) (one : List Nat) : Option (List Nat) := if hitB ths one then (match best with | none => some one | some c => if ltK one c then some one else some c) else best
def bB : Fs := (iff (tstB (op2 oEq (comp 1 [5] (itSeq (nmV 3)) (gNm 0) (tstB (op2 oEq (comp 1 [1] (itSeq (nmV 0)) (gNm 0) (tstB (op2 (oIn false) (nm 0) (nm 1))) (nmV 0)) (mkLst []))) (nmV 0)) (mkLst []))) (iff (orT (tstB (op1 oIsN (nm 4))) (tstB (op2 oLtD (mkTup [(opN oLen [(nm 5)]), (nmV 5)]) (nm 4)))) (asg 4 (mkTup [(opN oLen [(nm 5)]), (nmV 5)])) skip) skip)
section
variable (s h : T) (room : Int) (ths : List (List Nat)) (hl : ths.length ≤ 1000) (hw : ∀ w ∈ ths, w.length ≤ 1000)
include hl hw
theorem b_step (best : Option (List Nat)) (one : List Nat) : bB (envL s h room ths (some (.imm (bT best))) (some (.imm (wT one))) none none none none none none) = some (.nx (envL s h room ths (some (.imm (bT (nextB ths best one)))) (some (.imm (wT one))) none none none none none none)) := by
  have hc : comp 1 [5] (itSeq (nmV 3)) (gNm 0) (tstB (op2 oEq (comp 1 [1] (itSeq (nmV 0)) (gNm 0) (tstB (op2 (oIn false) (nm 0) (nm 1))) (nmV 0)) (mkLst []))) (nmV 0) (envL s h room ths (some (.imm (bT best))) (some (.imm (wT one))) none none none none none none) = some (.list ((ths.filter (missB one)).map wT)) := by
    have it : itSeq (nmV 3) (envL s h room ths (some (.imm (bT best))) (some (.imm (wT one))) none none none none none none) = some (ths.map wT) := rfl
    have hcap : capEnv 1 [5] (envL s h room ths (some (.imm (bT best))) (some (.imm (wT one))) none none none none none none) = [none, some (.imm (wT one))] := rfl
    simp only [comp, it, Option.bind_some, hcap, List.length_map]
    rw [if_pos (by unfold big; omega), show compL (gNm 0) (tstB (op2 oEq (comp 1 [1] (itSeq (nmV 0)) (gNm 0) (tstB (op2 (oIn false) (nm 0) (nm 1))) (nmV 0)) (mkLst []))) (nmV 0) (ths.map wT) [none, some (.imm (wT one))] = _ from comp_miss one ths none hw]
    rfl
  have c := tstB_of (op2_of (o := oEq) hc (g := mkLst []) (y := .list []) (by simp [mkLst, args, big]) (oEq_nilL _))
  have hp : mkTup [(opN oLen [(nm 5)]), (nmV 5)] (envL s h room ths (some (.imm (bT best))) (some (.imm (wT one))) none none none none none none) = some (pT one) := mkTup_of (args2 (opN_of (args1 (f := nm 5) rfl) (t := .int one.length) (by simp [oLen, wT])) rfl) (by simp)
  have a : asg 4 (mkTup [(opN oLen [(nm 5)]), (nmV 5)]) (envL s h room ths (some (.imm (bT best))) (some (.imm (wT one))) none none none none none none) = some (.nx (envL s h room ths (some (.imm (bT (some one)))) (some (.imm (wT one))) none none none none none none)) := asg_of hp
  unfold bB nextB hitB
  cases hh : (ths.filter (missB one)).isEmpty with
  | false =>
    rw [hh] at c
    rw [iff_skip c]
    rfl
  | true =>
    rw [hh] at c
    rw [iff_yes c]
    simp only [if_true]
    cases best with
    | none =>
      have c2 : orT (tstB (op1 oIsN (nm 4))) (tstB (op2 oLtD (mkTup [(opN oLen [(nm 5)]), (nmV 5)]) (nm 4))) (envL s h room ths (some (.imm (bT none))) (some (.imm (wT one))) none none none none none none) = some true := rfl
      rw [iff_yes c2, a]
    | some b =>
      have c3 : tstB (op2 oLtD (mkTup [(opN oLen [(nm 5)]), (nmV 5)]) (nm 4)) (envL s h room ths (some (.imm (bT (some b)))) (some (.imm (wT one))) none none none none none none) = some (ltK one b) := by
        refine tstB_of (op2_of hp (g := nm 4) (y := pT b) rfl ?_)
        unfold oLtD
        rw [okT_pair, okT_pair, ltD_pair]
        rfl
      have c2 : orT (tstB (op1 oIsN (nm 4))) (tstB (op2 oLtD (mkTup [(opN oLen [(nm 5)]), (nmV 5)]) (nm 4))) (envL s h room ths (some (.imm (bT (some b)))) (some (.imm (wT one))) none none none none none none) = some (ltK one b) := by
        have c1 : tstB (op1 oIsN (nm 4)) (envL s h room ths (some (.imm (bT (some b)))) (some (.imm (wT one))) none none none none none none) = some false := rfl
        simp only [orT, c1, c3, Option.bind_some]
        rfl
      cases hk : ltK one b with
      | true =>
        rw [hk] at c2
        rw [iff_yes c2, a]
        simp only [hk, if_true]
      | false =>
        rw [hk] at c2
        rw [iff_skip c2]
        simp only [hk, Bool.false_eq_true, if_false]
theorem b_loop : ∀ (ss : List (List Nat)) (best : Option (List Nat)) (j5 : Option Sl), ∃ j5', forL (gNm 5) bB (ss.map wT) (envL s h room ths (some (.imm (bT best))) j5 none none none none none none) = some (.nx (envL s h room ths (some (.imm (bT (ss.foldl (nextB ths) best)))) j5' none none none none none none))
  | [], best, j5 => ⟨j5, rfl⟩
  | one :: ss, best, j5 => by
    obtain ⟨j5', ih⟩ := b_loop ss (nextB ths best one) (some (.imm (wT one)))
    have e0 : gNm 5 (wT one) (envL s h room ths (some (.imm (bT best))) j5 none none none none none none) = some (envL s h room ths (some (.imm (bT best))) (some (.imm (wT one))) none none none none none none) := rfl
    exact ⟨j5', by rw [List.map_cons, forL_nx e0 (b_step s h room ths hl hw best one), ih, List.foldl_cons]⟩
end
theorem best_spec (ths : List (List Nat)) {C : List Nat} (hC : Hg.Hits C ths) : ∀ (ss : List (List Nat)) (best : Option (List Nat)), (∀ D ∈ ss, Hg.Hits D ths → D = C ∨ (ltK C D = true ∧ ltK D C = false)) → (∀ c, best = some c → c = C ∨ (ltK C c = true ∧ ltK c C = false)) → (C ∈ ss ∨ best = some C) → ss.foldl (nextB ths) best = some C
  | [], best, _, _, h => by
    rcases h with h | h
    · cases h
    · exact h
  | D :: ss, best, h1, h2, h3 => by
    rw [List.foldl_cons]
    have irr : ltK C C = false := by simp [ltK, ltN_irr]
    have hD := h1 D (by simp)
    refine best_spec ths hC ss (nextB ths best D) (fun E hE => h1 E (by simp [hE])) (fun c hc => ?_) ?_
    · unfold nextB at hc
      split at hc
      next hh =>
        have hd := hD (hitB_iff.mp hh)
        cases best with
        | none =>
          simp only [Option.some.injEq] at hc
          subst hc
          exact hd
        | some b =>
          simp only at hc
          split at hc
          · simp only [Option.some.injEq] at hc
            subst hc
            exact hd
          · exact h2 c hc
      next => exact h2 c hc
    · rcases h3 with h3 | h3
      · rcases List.mem_cons.mp h3 with e | h3
        · right
          subst e
          unfold nextB
          rw [if_pos (hitB_iff.mpr hC)]
          cases best with
          | none => rfl
          | some b =>
            simp only
            rcases h2 b rfl with e | ⟨e, _⟩
            · subst e
              split <;> rfl
            · rw [if_pos e]
        · exact .inl h3
      · right
        subst h3
        unfold nextB
        split
        next hh =>
          simp only
          rcases hD (hitB_iff.mp hh) with e | ⟨_, e⟩
          · subst e
            split <;> rfl
          · rw [if_neg (by rw [e]; decide)]
        next => rfl
/-! ### the rows of ways apart -/
def okRow (w : List Nat) (B : List (List Nat)) : Bool := decide (w.filter (fun k => decide (k ∈ B.flatten)) = [])
def rowsF : List (List Nat) → List (List (List Nat)) → List (List (List Nat))
  | [], rs => rs
  | w :: ws, rs => rowsF ws (rs ++ (rs.filter (okRow w)).map fun B => B ++ [w])
theorem okRow_iff {w : List Nat} {B : List (List Nat)} : okRow w B = true ↔ ∀ v ∈ B, Hg.Apt v w := by
  unfold okRow
  rw [decide_eq_true_eq, List.filter_eq_nil_iff]
  simp only [decide_eq_true_eq, List.mem_flatten, not_exists, not_and, Hg.Apt]
  exact ⟨fun h v hv k hk hkw => h k hkw v hv hk, fun h k hk v hv hkv => h v hv k hkv hk⟩
theorem rows_mem : ∀ (ws pre : List (List Nat)) (rs : List (List (List Nat))), (∀ B, B ∈ rs ↔ B.Sublist pre ∧ B.Pairwise Hg.Apt) → ∀ B, B ∈ rowsF ws rs ↔ B.Sublist (pre ++ ws) ∧ B.Pairwise Hg.Apt
  | [], pre, rs, h, B => by simpa [rowsF] using h B
  | w :: ws, pre, rs, h, B => by
    rw [rowsF, rows_mem ws (pre ++ [w]) _ (fun B => ?_) B, List.append_assoc]
    · rfl
    · rw [List.mem_append, List.mem_map, h, sub_snoc]
      constructor
      · rintro (⟨h1, h2⟩ | ⟨B', h1, rfl⟩)
        · exact ⟨.inl h1, h2⟩
        · obtain ⟨h3, h4⟩ := List.mem_filter.mp h1
          have h5 := (h B').mp h3
          refine ⟨.inr ⟨B', rfl, h5.1⟩, List.pairwise_append.mpr ⟨h5.2, by simp, fun v hv x hx => ?_⟩⟩
          have : x = w := by simpa using hx
          subst this
          exact okRow_iff.mp h4 v hv
      · rintro ⟨h1 | ⟨B', rfl, h1⟩, h2⟩
        · exact .inl ⟨h1, h2⟩
        · have p := List.pairwise_append.mp h2
          exact .inr ⟨B', List.mem_filter.mpr ⟨(h B').mpr ⟨h1, p.1⟩, okRow_iff.mpr fun v hv => p.2.2 v hv w (by simp)⟩, rfl⟩
theorem rows_len : ∀ (ws : List (List Nat)) (rs : List (List (List Nat))), (rowsF ws rs).length ≤ rs.length * 2 ^ ws.length
  | [], rs => by simp [rowsF]
  | w :: ws, rs => by
    have h1 := rows_len ws (rs ++ (rs.filter (okRow w)).map fun B => B ++ [w])
    have h2 : (rs ++ (rs.filter (okRow w)).map fun B => B ++ [w]).length ≤ 2 * rs.length := by
      simp only [List.length_append, List.length_map]
      have := List.length_filter_le (okRow w) rs
      omega
    have h3 := Nat.mul_le_mul_right (2 ^ ws.length) h2
    rw [rowsF, List.length_cons, Nat.pow_succ]
    calc _ ≤ _ := h1
      _ ≤ _ := h3
      _ = rs.length * (2 ^ ws.length * 2) := by rw [Nat.mul_comm 2 rs.length, Nat.mul_assoc, Nat.mul_comm 2]
theorem comp_inL (us : List Nat) : ∀ (w : List Nat) (j : Option Sl), compL (gNm 0) (tstB (op2 (oIn false) (nm 0) (nm 1))) (nmV 0) (w.map fun (k : Nat) => PyData.int (k : Int)) [j, some (.imm (.list ((cstN us).map .int)))] = some ((cstN (w.filter fun k => decide (k ∈ us))).map .int)
  | [], j => rfl
  | k :: w, j => by
    have ih := comp_inL us w (some (.imm (.int k)))
    have e0 : gNm 0 (.int k) [j, some (.imm (.list ((cstN us).map .int)))] = some [some (.imm (.int k)), some (.imm (.list ((cstN us).map .int)))] := rfl
    have c : tstB (op2 (oIn false) (nm 0) (nm 1)) [some (.imm (.int k)), some (.imm (.list ((cstN us).map .int)))] = some (decide (k ∈ us)) := by
      refine tstB_of (op2_of rfl rfl ?_)
      unfold oIn
      simp only [okT_int, okLs_ints, hasT_int, Bool.and_self, if_true, Bool.false_eq_true, if_false]
      congr 2
      exact decide_eq_decide.mpr mem_cast
    have v : nmV 0 [some (.imm (.int k)), some (.imm (.list ((cstN us).map .int)))] = some (.int k) := rfl
    by_cases h : k ∈ us
    · simp only [List.map_cons, compL, e0, c, Option.bind_some, h, decide_true, if_true, v, ih, List.filter_cons, Option.map_some]
      rfl
    · simp only [List.map_cons, compL, e0, c, Option.bind_some, h, decide_false, Bool.false_eq_true, if_false, ih, List.filter_cons]
def bU : Fs := (asg 10 (op2 oAdd (nm 10) (opN oList [(nm 5)])))
def bV : Fs := (seq (asg 10 (mkLst []))
    (seq (for_ (itSeq (nmV 9)) (gNm 5) bU)
    (iff (tstB (op2 oEq (comp 1 [10] (itSeq (nmV 7)) (gNm 0) (tstB (op2 (oIn false) (nm 0) (nm 1))) (nmV 0)) (mkLst []))) (app 8 (op2 oAdd (nm 9) (mkTup [(nmV 7)]))) skip)))
def bW' : Fs := (seq (asgN 8 (mkLst []))
    (seq (for_ (itSeq (nmV 6)) (gNm 9) bV)
    (asg 6 (op2 oAdd (nm 6) (nm 8)))))
section
variable (s h : T) (room : Int) (ths : List (List Nat)) (j4 : Option Sl)
theorem u_loop (j6 j7 j8 j9 j11 : Option Sl) : ∀ (B : List (List Nat)) (us : List Nat) (j5 : Option Sl), us.length + B.length * 100 ≤ 100000 → (∀ w ∈ B, w.length ≤ 100) →
    ∃ j5', forL (gNm 5) bU (B.map wT) (envL s h room ths j4 j5 j6 j7 j8 j9 (some (.imm (.list ((cstN us).map .int)))) j11) = some (.nx (envL s h room ths j4 j5' j6 j7 j8 j9 (some (.imm (.list ((cstN (us ++ B.flatten)).map .int)))) j11))
  | [], us, j5, _, _ => ⟨j5, by simp [forL]⟩
  | w :: B, us, j5, hl, hw => by
    simp only [List.length_cons, Nat.succ_mul] at hl
    have hwl := hw w (by simp)
    obtain ⟨j5', ih⟩ := u_loop j6 j7 j8 j9 j11 B (us ++ w) (some (.imm (wT w))) (by rw [List.length_append]; omega) fun w h => hw w (by simp [h])
    refine ⟨j5', ?_⟩
    have e0 : gNm 5 (wT w) (envL s h room ths j4 j5 j6 j7 j8 j9 (some (.imm (.list ((cstN us).map .int)))) j11) = some (envL s h room ths j4 (some (.imm (wT w))) j6 j7 j8 j9 (some (.imm (.list ((cstN us).map .int)))) j11) := rfl
    have ho : oList [wT w] = some (.list ((cstN w).map .int)) := by rw [wT_cast]; rfl
    have ha : op2 oAdd (nm 10) (opN oList [(nm 5)]) (envL s h room ths j4 (some (.imm (wT w))) j6 j7 j8 j9 (some (.imm (.list ((cstN us).map .int)))) j11) = some (.list ((cstN (us ++ w)).map .int)) := by
      refine (op2_of (f := nm 10) rfl (opN_of (args1 (f := nm 5) rfl) ho) (show oAdd (.list ((cstN us).map .int)) (.list ((cstN w).map .int)) = some (.list ((cstN us).map .int ++ (cstN w).map .int)) from if_pos (by unfold big; simp [cstN]; omega))).trans ?_
      simp [cstN]
    have st : bU (envL s h room ths j4 (some (.imm (wT w))) j6 j7 j8 j9 (some (.imm (.list ((cstN us).map .int)))) j11) = some (.nx (envL s h room ths j4 (some (.imm (wT w))) j6 j7 j8 j9 (some (.imm (.list ((cstN (us ++ w)).map .int)))) j11)) := asg_of ha
    rw [List.map_cons, forL_nx e0 st, ih, List.flatten_cons, List.append_assoc]
theorem v_step (w : List Nat) (hw : w.length ≤ 100) (j5 j6 j10 j11 : Option Sl) (B : List (List Nat)) (hB : B.length ≤ 100) (hBw : ∀ w ∈ B, w.length ≤ 100) (acc : List (List (List Nat))) (ha : acc.length < 10000000) :
    ∃ j5' j10', bV (envL s h room ths j4 j5 j6 (some (.imm (wT w))) (some (.own (acc.map rwT))) (some (.imm (rwT B))) j10 j11) = some (.nx (envL s h room ths j4 j5' j6 (some (.imm (wT w))) (some (.own ((acc ++ if okRow w B then [B ++ [w]] else []).map rwT))) (some (.imm (rwT B))) j10' j11)) := by
  have s1 : asg 10 (mkLst []) (envL s h room ths j4 j5 j6 (some (.imm (wT w))) (some (.own (acc.map rwT))) (some (.imm (rwT B))) j10 j11) = some (.nx (envL s h room ths j4 j5 j6 (some (.imm (wT w))) (some (.own (acc.map rwT))) (some (.imm (rwT B))) (some (.imm (.list ((cstN []).map .int)))) j11)) := asg_of (by simp [mkLst, args, big, cstN])
  obtain ⟨j5', hu⟩ := u_loop s h room ths j4 j6 (some (.imm (wT w))) (some (.own (acc.map rwT))) (some (.imm (rwT B))) j11 B [] j5 (by simp; omega) hBw
  have s2 : for_ (itSeq (nmV 9)) (gNm 5) bU (envL s h room ths j4 j5 j6 (some (.imm (wT w))) (some (.own (acc.map rwT))) (some (.imm (rwT B))) (some (.imm (.list ((cstN []).map .int)))) j11) = some (.nx (envL s h room ths j4 j5' j6 (some (.imm (wT w))) (some (.own (acc.map rwT))) (some (.imm (rwT B))) (some (.imm (.list ((cstN B.flatten).map .int)))) j11)) := by
    have it : itSeq (nmV 9) (envL s h room ths j4 j5 j6 (some (.imm (wT w))) (some (.own (acc.map rwT))) (some (.imm (rwT B))) (some (.imm (.list ((cstN []).map .int)))) j11) = some (B.map wT) := rfl
    simp only [for_, it, Option.bind_some]
    exact hu
  refine ⟨j5', some (.imm (.list ((cstN B.flatten).map .int))), ?_⟩
  have hc : comp 1 [10] (itSeq (nmV 7)) (gNm 0) (tstB (op2 (oIn false) (nm 0) (nm 1))) (nmV 0) (envL s h room ths j4 j5' j6 (some (.imm (wT w))) (some (.own (acc.map rwT))) (some (.imm (rwT B))) (some (.imm (.list ((cstN B.flatten).map .int)))) j11) = some (.list ((cstN (w.filter fun k => decide (k ∈ B.flatten))).map .int)) := by
    have it : itSeq (nmV 7) (envL s h room ths j4 j5' j6 (some (.imm (wT w))) (some (.own (acc.map rwT))) (some (.imm (rwT B))) (some (.imm (.list ((cstN B.flatten).map .int)))) j11) = some (w.map fun (k : Nat) => PyData.int (k : Int)) := rfl
    have hcap : capEnv 1 [10] (envL s h room ths j4 j5' j6 (some (.imm (wT w))) (some (.own (acc.map rwT))) (some (.imm (rwT B))) (some (.imm (.list ((cstN B.flatten).map .int)))) j11) = [none, some (.imm (.list ((cstN B.flatten).map .int)))] := rfl
    simp only [comp, it, Option.bind_some, hcap, comp_inL, List.length_map]
    rw [if_pos (by unfold big; omega)]
    rfl
  have c : tstB (op2 oEq (comp 1 [10] (itSeq (nmV 7)) (gNm 0) (tstB (op2 (oIn false) (nm 0) (nm 1))) (nmV 0)) (mkLst [])) (envL s h room ths j4 j5' j6 (some (.imm (wT w))) (some (.own (acc.map rwT))) (some (.imm (rwT B))) (some (.imm (.list ((cstN B.flatten).map .int)))) j11) = some (okRow w B) := by
    have := tstB_of (op2_of (o := oEq) hc (g := mkLst []) (y := .list (([] : List Int).map .int)) (by simp [mkLst, args, big]) (oEq_intsL _ []))
    rw [this]
    congr 1
    exact decide_eq_decide.mpr (by simp [cstN])
  unfold bV
  rw [seq_nx s1, seq_nx s2]
  cases hk : okRow w B with
  | false =>
    rw [hk] at c
    rw [iff_skip c]
    simp
  | true =>
    rw [hk] at c
    rw [iff_yes c]
    have hb : (acc.map rwT).length < big := by simp [big]; omega
    have e2 : (envL s h room ths j4 j5' j6 (some (.imm (wT w))) (some (.own (acc.map rwT))) (some (.imm (rwT B))) (some (.imm (.list ((cstN B.flatten).map .int)))) j11)[8]? = some (some (.own (acc.map rwT))) := rfl
    have e1 : op2 oAdd (nm 9) (mkTup [(nmV 7)]) (envL s h room ths j4 j5' j6 (some (.imm (wT w))) (some (.own (acc.map rwT))) (some (.imm (rwT B))) (some (.imm (.list ((cstN B.flatten).map .int)))) j11) = some (rwT (B ++ [w])) :=
      (op2_of (f := nm 9) (x := rwT B) rfl (mkTup_of (args1 rfl) (by simp)) (tup_add (by simp; omega))).trans (by simp [rwT])
    simp only [app, e2, e1, Option.bind_some]
    rw [if_pos hb]
    simp [envL]
theorem v_loop (w : List Nat) (hw : w.length ≤ 100) (j6 j11 : Option Sl) : ∀ (Bs acc : List (List (List Nat))) (j5 j9 j10 : Option Sl), (∀ B ∈ Bs, B.length ≤ 100 ∧ ∀ w ∈ B, w.length ≤ 100) → acc.length + Bs.length < 10000000 →
    ∃ j5' j9' j10', forL (gNm 9) bV (Bs.map rwT) (envL s h room ths j4 j5 j6 (some (.imm (wT w))) (some (.own (acc.map rwT))) j9 j10 j11) = some (.nx (envL s h room ths j4 j5' j6 (some (.imm (wT w))) (some (.own ((acc ++ (Bs.filter (okRow w)).map fun B => B ++ [w]).map rwT))) j9' j10' j11))
  | [], acc, j5, j9, j10, _, _ => ⟨j5, j9, j10, by simp [forL]⟩
  | B :: Bs, acc, j5, j9, j10, hB, hl => by
    simp only [List.length_cons] at hl
    obtain ⟨b1, b2⟩ := hB B (by simp)
    obtain ⟨a5, a10, st⟩ := v_step s h room ths j4 w hw j5 j6 j10 j11 B b1 b2 acc (by omega)
    have hlen : (if okRow w B then [B ++ [w]] else []).length ≤ 1 := by split <;> simp
    obtain ⟨c5, c9, c10, ih⟩ := v_loop w hw j6 j11 Bs (acc ++ if okRow w B then [B ++ [w]] else []) a5 (some (.imm (rwT B))) a10 (fun B h => hB B (by simp [h])) (by rw [List.length_append]; omega)
    refine ⟨c5, c9, c10, ?_⟩
    have e0 : gNm 9 (rwT B) (envL s h room ths j4 j5 j6 (some (.imm (wT w))) (some (.own (acc.map rwT))) j9 j10 j11) = some (envL s h room ths j4 j5 j6 (some (.imm (wT w))) (some (.own (acc.map rwT))) (some (.imm (rwT B))) j10 j11) := rfl
    rw [List.map_cons, forL_nx e0 st, ih, List.append_assoc, List.filter_cons]
    cases okRow w B <;> simp
theorem w_loop (n : Nat) : ∀ (ws pre : List (List Nat)) (rs : List (List (List Nat))) (j5 j7 j8 j9 j10 j11 : Option Sl), (∀ w ∈ pre ++ ws, w.length ≤ 100) → (pre ++ ws).length ≤ 20 → (∀ B ∈ rs, B.Sublist pre) → rs.length * 2 ^ ws.length ≤ 2 ^ 20 →
    ∃ j5' j7' j8' j9' j10' j11', forL (gNm 7) bW' (ws.map wT) (envL s h room ths j4 j5 (some (.imm (.list (rs.map rwT)))) j7 j8 j9 j10 j11) = some (.nx (envL s h room ths j4 j5' (some (.imm (.list ((rowsF ws rs).map rwT)))) j7' j8' j9' j10' j11'))
  | [], pre, rs, j5, j7, j8, j9, j10, j11, _, _, _, _ => ⟨j5, j7, j8, j9, j10, j11, rfl⟩
  | w :: ws, pre, rs, j5, j7, j8, j9, j10, j11, hw, hl, hs, hr => by
    have hwl := hw w (by simp)
    have hrl : rs.length ≤ 2 ^ 20 := Nat.le_trans (Nat.le_mul_of_pos_right _ (Nat.two_pow_pos _)) hr
    have hrl' : rs.length ≤ 1048576 := hrl
    have hB : ∀ B ∈ rs, B.length ≤ 100 ∧ ∀ w ∈ B, w.length ≤ 100 := fun B hB => by
      have h1 := (hs B hB).length_le
      simp only [List.length_append, List.length_cons] at hl
      exact ⟨by omega, fun w hm => hw w (List.mem_append_left _ ((hs B hB).subset hm))⟩
    have e0 : gNm 7 (wT w) (envL s h room ths j4 j5 (some (.imm (.list (rs.map rwT)))) j7 j8 j9 j10 j11) = some (envL s h room ths j4 j5 (some (.imm (.list (rs.map rwT)))) (some (.imm (wT w))) j8 j9 j10 j11) := rfl
    have s1 : asgN 8 (mkLst []) (envL s h room ths j4 j5 (some (.imm (.list (rs.map rwT)))) (some (.imm (wT w))) j8 j9 j10 j11) = some (.nx (envL s h room ths j4 j5 (some (.imm (.list (rs.map rwT)))) (some (.imm (wT w))) (some (.own (([] : List (List (List Nat))).map rwT))) j9 j10 j11)) := by
      simp [asgN, mkLst, args, big, envL]
    obtain ⟨a5, a9, a10, hv⟩ := v_loop s h room ths j4 w hwl (some (.imm (.list (rs.map rwT)))) j11 rs [] j5 j9 j10 hB (by simp; omega)
    have s2 : for_ (itSeq (nmV 6)) (gNm 9) bV (envL s h room ths j4 j5 (some (.imm (.list (rs.map rwT)))) (some (.imm (wT w))) (some (.own (([] : List (List (List Nat))).map rwT))) j9 j10 j11) = some (.nx (envL s h room ths j4 a5 (some (.imm (.list (rs.map rwT)))) (some (.imm (wT w))) (some (.own (((rs.filter (okRow w)).map fun B => B ++ [w]).map rwT))) a9 a10 j11)) := by
      have it : itSeq (nmV 6) (envL s h room ths j4 j5 (some (.imm (.list (rs.map rwT)))) (some (.imm (wT w))) (some (.own (([] : List (List (List Nat))).map rwT))) j9 j10 j11) = some (rs.map rwT) := rfl
      simp only [for_, it, Option.bind_some]
      exact hv
    have hfl := List.length_filter_le (okRow w) rs
    have s3 : asg 6 (op2 oAdd (nm 6) (nm 8)) (envL s h room ths j4 a5 (some (.imm (.list (rs.map rwT)))) (some (.imm (wT w))) (some (.own (((rs.filter (okRow w)).map fun B => B ++ [w]).map rwT))) a9 a10 j11) = some (.nx (envL s h room ths j4 a5 (some (.imm (.list ((rs ++ (rs.filter (okRow w)).map fun B => B ++ [w]).map rwT)))) (some (.imm (wT w))) (some (.own (((rs.filter (okRow w)).map fun B => B ++ [w]).map rwT))) a9 a10 j11)) := by
      refine asg_of ((op2_of (f := nm 6) (g := nm 8) rfl rfl (show oAdd (.list (rs.map rwT)) (.list (((rs.filter (okRow w)).map fun B => B ++ [w]).map rwT)) = some (.list (rs.map rwT ++ ((rs.filter (okRow w)).map fun B => B ++ [w]).map rwT)) from if_pos (by unfold big; simp; omega))).trans (by rw [List.map_append]))
    have st : bW' (envL s h room ths j4 j5 (some (.imm (.list (rs.map rwT)))) (some (.imm (wT w))) j8 j9 j10 j11) = _ := (seq_nx s1).trans ((seq_nx s2).trans s3)
    obtain ⟨b5, b7, b8, b9, b10, b11, ih⟩ := w_loop n ws (pre ++ [w]) (rs ++ (rs.filter (okRow w)).map fun B => B ++ [w]) a5 (some (.imm (wT w))) (some (.own (((rs.filter (okRow w)).map fun B => B ++ [w]).map rwT))) a9 a10 j11 (fun x hx => hw x (by simpa using hx)) (by simpa using hl) (fun B hB' => by
      rcases List.mem_append.mp hB' with q | q
      · exact (hs B q).trans (List.sublist_append_left _ _)
      · obtain ⟨B', h1, rfl⟩ := List.mem_map.mp q
        exact (hs B' (List.mem_filter.mp h1).1).append (List.Sublist.refl _)) (by
      have h2 : (rs ++ (rs.filter (okRow w)).map fun B => B ++ [w]).length ≤ 2 * rs.length := by
        simp only [List.length_append, List.length_map]
        omega
      have h3 := Nat.mul_le_mul_right (2 ^ ws.length) h2
      rw [List.length_cons, Nat.pow_succ] at hr
      have h4 : 2 * rs.length * 2 ^ ws.length = rs.length * (2 ^ ws.length * 2) := by rw [Nat.mul_comm 2 rs.length, Nat.mul_assoc, Nat.mul_comm 2]
      omega)
    exact ⟨b5, b7, b8, b9, b10, b11, by rw [List.map_cons, forL_nx e0 st, ih, rowsF]⟩
end
/-! ### the longest, the least -/
theorem maxI_of : ∀ {l : List Int} {m : Int}, m ∈ l → (∀ x ∈ l, x ≤ m) → maxI l = m
  | [x], m, hm, _ => by
    have : m = x := by simpa using hm
    rw [this]
    rfl
  | x :: y :: r, m, hm, hb => by
    simp only [maxI]
    rcases List.mem_cons.mp hm with rfl | h
    · have h1 : ∀ z ∈ y :: r, z ≤ m := fun z hz => hb z (by simp [hz])
      have : maxI (y :: r) ≤ m := by
        have key : ∀ {l : List Int}, l ≠ [] → (∀ z ∈ l, z ≤ m) → maxI l ≤ m := by
          intro l
          induction l with
          | nil => intro h; exact absurd rfl h
          | cons a l ih =>
            intro _ h
            cases l with
            | nil => exact h a (by simp)
            | cons b l =>
              simp only [maxI]
              have h1 := ih (by simp) fun z hz => h z (by simp [hz])
              have h2 := h a (by simp)
              omega
        exact key (by simp) h1
      omega
    · have ih := maxI_of h fun z hz => hb z (by simp [hz])
      have := hb x (by simp)
      rw [ih]
      omega
theorem minFrom_of {B : List (List Nat)} : ∀ (l : List (List (List Nat))) (b : List (List Nat)), (b = B ∨ B ∈ l) → (∀ D ∈ b :: l, D = B ∨ (ltR B D = true ∧ ltR D B = false)) → minFrom (rwT b) (l.map rwT) = some (rwT B)
  | [], b, h, _ => by
    rcases h with rfl | h
    · rfl
    · cases h
  | d :: l, b, h, hb => by
    have hlt : ltD (rwT d) (rwT b) = some (ltR d b) := by
      simp only [rwT, ltD, ltD_row]
    rw [List.map_cons, minFrom, hlt, Option.bind_some]
    have hbb := hb b (by simp)
    have hdd := hb d (by simp)
    cases hz : ltR d b with
    | true =>
      simp only [if_true]
      refine minFrom_of l d ?_ fun D hD => hb D (by
        rcases List.mem_cons.mp hD with rfl | hD
        · simp
        · simp [hD])
      rcases h with rfl | h
      · rcases hdd with e | e
        · exact .inl e
        · rw [e.2] at hz
          cases hz
      · rcases List.mem_cons.mp h with e | h
        · exact .inl e.symm
        · exact .inr h
    | false =>
      simp only [Bool.false_eq_true, if_false]
      refine minFrom_of l b ?_ fun D hD => hb D (by
        rcases List.mem_cons.mp hD with rfl | hD
        · simp
        · simp [hD])
      rcases h with rfl | h
      · exact .inl rfl
      · rcases List.mem_cons.mp h with e | h
        · subst e
          rcases hbb with e | e
          · exact .inl e
          · rw [e.1] at hz
            cases hz
        · exact .inr h
theorem minD_of {B : List (List Nat)} {l : List (List (List Nat))} (h : B ∈ l) (hb : ∀ D ∈ l, D = B ∨ (ltR B D = true ∧ ltR D B = false)) : minD (l.map rwT) = some (rwT B) := by
  cases l with
  | nil => cases h
  | cons b l =>
    rw [List.map_cons, minD]
    refine minFrom_of l b ?_ hb
    rcases List.mem_cons.mp h with e | h
    · exact .inl e.symm
    · exact .inr h
theorem comp_lens : ∀ (Bs : List (List (List Nat))) (j : Option Sl), compL (gNm 0) (cstT true) (opN oLen [(nm 0)]) (Bs.map rwT) [j] = some ((Bs.map fun B => (B.length : Int)).map .int)
  | [], j => rfl
  | B :: Bs, j => by
    have ih := comp_lens Bs (some (.imm (rwT B)))
    have e0 : gNm 0 (rwT B) [j] = some [some (.imm (rwT B))] := rfl
    have x : opN oLen [(nm 0)] [some (.imm (rwT B))] = some (.int B.length) := opN_of (args1 (f := nm 0) rfl) (by simp [oLen, rwT])
    simp only [List.map_cons, compL, e0, Option.bind_some, cstT, if_true, x, ih, Option.map_some]
theorem comp_many (m : Nat) : ∀ (Bs : List (List (List Nat))) (j : Option Sl), compL (gNm 0) (tstB (op2 oEq (opN oLen [(nm 0)]) (nm 1))) (nmV 0) (Bs.map rwT) [j, some (.imm (.int m))] = some ((Bs.filter fun B => decide (B.length = m)).map rwT)
  | [], j => rfl
  | B :: Bs, j => by
    have ih := comp_many m Bs (some (.imm (rwT B)))
    have e0 : gNm 0 (rwT B) [j, some (.imm (.int m))] = some [some (.imm (rwT B)), some (.imm (.int m))] := rfl
    have c : tstB (op2 oEq (opN oLen [(nm 0)]) (nm 1)) [some (.imm (rwT B)), some (.imm (.int m))] = some (decide (B.length = m)) := by
      have x : opN oLen [(nm 0)] [some (.imm (rwT B)), some (.imm (.int m))] = some (.int B.length) := opN_of (args1 (f := nm 0) rfl) (by simp [oLen, rwT])
      have := tstB_of (op2_of (o := oEq) x (g := nm 1) (y := .int m) rfl (oEq_int _ _))
      rw [this]
      congr 1
      exact decide_eq_decide.mpr (by omega)
    have v : nmV 0 [some (.imm (rwT B)), some (.imm (.int m))] = some (rwT B) := rfl
    by_cases h : B.length = m
    · simp only [List.map_cons, compL, e0, c, Option.bind_some, h, decide_true, if_true, v, ih, List.filter_cons, Option.map_some]
    · simp only [List.map_cons, compL, e0, c, Option.bind_some, h, decide_false, Bool.false_eq_true, if_false, ih, List.filter_cons]
theorem intsOf_ints : ∀ (ns : List Int), intsOf (ns.map .int) = some ns
  | [] => rfl
  | x :: r => by
    simp only [List.map_cons, intsOf, intsOf_ints r]
    rfl
theorem take_drawn {R : Int} {os : List Op} (d : Drawn R os) : Drawn R (os.take 8) := ⟨d.r1, d.r7, by rw [List.length_take]; have := d.len; omega, fun o ho => d.ok o (List.mem_of_mem_take ho)⟩
theorem G8 : ∀ m ≤ 8, Hg.G m ≤ 18 := by decide
def env0 (sc : List Int) : Ev := [some (.imm (scriptT sc)), none, none, none, none, none, none, none, none, none, none, none]
theorem law_true (sc : List Int) : d_law [scriptT sc] = some (.bool true) := by
  obtain ⟨m0, hm0, e0⟩ := mixed_eq sc 0
  obtain ⟨m1, hm1, e1⟩ := mixed_eq sc 1
  obtain ⟨R, os0, d0, eh⟩ := house_eq m0 hm0
  have d := take_drawn d0
  obtain ⟨os, hos⟩ : ∃ os, os = os0.take 8 := ⟨_, rfl⟩
  rw [← hos] at d
  have hR1 := d.r1
  have hR7 := d.r7
  have hM : os.length ≤ 8 := by rw [hos, List.length_take]; omega
  obtain ⟨room, hroom, hr1, hr2⟩ : ∃ room : Int, room = 1 + m1 % R ∧ 1 ≤ room ∧ room ≤ R := ⟨1 + m1 % R, rfl, by have := Int.emod_nonneg m1 (show R ≠ 0 by omega); omega, by have := Int.emod_lt_of_pos m1 (show 0 < R by omega); omega⟩
  obtain ⟨ths, hwp, hwt, _⟩ := ways_val d room
  have unl : ∀ e ∈ os.map edge, e.1 ≠ e.2 := fun e he => by
    obtain ⟨op, hop, rfl⟩ := List.mem_map.mp he
    exact Int.ne_of_lt (d.ok op hop).2.1
  have hthl : ths.length ≤ 18 := Nat.le_trans (Hg.ways_cnt unl (by simp; omega) (by simp) hwp) (G8 _ (Nat.le_trans List.countP_le_length (by simpa using hM)))
  have hwl : ∀ w ∈ ths, w.length ≤ 20 := fun w hw => ways_lens 20 [0] ths hwp w hw
  have hfol : ∀ w ∈ ths, w ≠ [] ∧ ∀ k ∈ w, k < os.length := fun w hw => by
    obtain ⟨p, p1, p2, p3⟩ := (Hg.ways_char hwp w).mp hw
    refine ⟨?_, fun k hk => ?_⟩
    · rintro rfl
      have : p = [] := p1
      subst this
      simp at p3
      omega
    · have fol_ix : ∀ {w : List Nat} {x : Int} {p : List Int}, Hg.Fol (os.map edge) x w p → ∀ k ∈ w, k < (os.map edge).length := by
        intro w
        induction w with
        | nil => intro x p _ k hk; cases hk
        | cons j w ih =>
          rintro x p ⟨e, t, q, h1, _, _, h4⟩ k hk
          rcases List.mem_cons.mp hk with rfl | hk
          · exact (List.getElem?_eq_some_iff.mp h1).1
          · exact ih h4 k hk
      simpa using fol_ix p1 k hk
  obtain ⟨C, hC, hCs, hCh, hCm, hCl⟩ := Hg.few_spec (ths := ths) (M := os.length) hfol
  have hfw := fewest_eq (R := R) hwt (by omega) (by omega) hC
  have hCle : C.length ≤ os.length := by have := hCs.length_le; simpa using this
  have hap := apart_eq (R := R) hwt (by omega) (fun w hw => by have := hwl w hw; omega) hfw (by omega)
  obtain ⟨D0, hD1, hD2, hD3⟩ := Hg.apart_many (within_all d) (by omega) unl (show room ≠ 0 by omega) hwp hCh (fun D h1 h2 => hCm D (by simpa using h1) h2)
  obtain ⟨B, hB⟩ : ∃ B, Hg.faR C.length ths = some B := by
    cases hb : Hg.faR C.length ths with
    | none => exact absurd hb (Hg.fa_compl hD1 hD2 hD3)
    | some B => exact ⟨B, rfl⟩
  obtain ⟨hB1, hB2, hB3⟩ := Hg.fa_sound hB
  have hBl := Hg.fa_least (Hg.ways_pw hwp) hB
  rw [hB] at hap
  -- the house, the room, the ways
  have s1 : asg 1 (opN d_l_house [(opN d_l_mixed [(nmV 0), (cst (.int 0))])]) (env0 sc) = some (.nx [some (.imm (scriptT sc)), some (.imm (houseT R os0)), none, none, none, none, none, none, none, none, none, none]) := asg_of (opN_of (args1 (opN_of (args2 rfl rfl) e0)) eh)
  have s2 : asg 1 (mkTup [(op2 oIx (nm 1) (cst (.int 0))), (slice (op2 oIx (nm 1) (cst (.int 1))) optN (opt (cst (.int 8))))]) [some (.imm (scriptT sc)), some (.imm (houseT R os0)), none, none, none, none, none, none, none, none, none, none] = some (.nx [some (.imm (scriptT sc)), some (.imm (houseT R os)), none, none, none, none, none, none, none, none, none, none]) := by
    have h1 : op2 oIx (nm 1) (cst (.int 0)) [some (.imm (scriptT sc)), some (.imm (houseT R os0)), none, none, none, none, none, none, none, none, none, none] = some (.int R) := op2_of rfl rfl rfl
    have h2 : slice (op2 oIx (nm 1) (cst (.int 1))) optN (opt (cst (.int 8))) [some (.imm (scriptT sc)), some (.imm (houseT R os0)), none, none, none, none, none, none, none, none, none, none] = some (.tuple (os.map opT)) := by
      have h3 : op2 oIx (nm 1) (cst (.int 1)) [some (.imm (scriptT sc)), some (.imm (houseT R os0)), none, none, none, none, none, none, none, none, none, none] = some (.tuple (os0.map opT)) := op2_of rfl rfl rfl
      have h4 : D.sIx (os0.map opT).length (os0.map opT).length (some 8) = min 8 os0.length := by
        simp only [D.sIx, List.length_map]
        omega
      simp only [slice, h3, Option.bind_some, optN, opt, cst, oSl, cutZ, h4]
      rw [hos, List.map_take]
      show some (PyData.tuple (List.take (min 8 os0.length - 0) (List.drop 0 (os0.map opT)))) = _
      rw [List.drop_zero, Nat.sub_zero]
      congr 2
      rcases Nat.le_total 8 os0.length with q | q
      · rw [Nat.min_eq_left q]
      · rw [Nat.min_eq_right q, List.take_of_length_le (by simp), List.take_of_length_le (by simp; omega)]
    exact asg_of (mkTup_of (args2 h1 h2) (by simp))
  have s3 : asg 2 (op2 oAdd (cst (.int 1)) (op2 oMod (opN d_l_mixed [(nmV 0), (cst (.int 1))]) (op2 oIx (nm 1) (cst (.int 0))))) [some (.imm (scriptT sc)), some (.imm (houseT R os)), none, none, none, none, none, none, none, none, none, none] = some (.nx [some (.imm (scriptT sc)), some (.imm (houseT R os)), some (.imm (.int room)), none, none, none, none, none, none, none, none, none]) := by
    rw [hroom]
    exact asg_of (op2_of rfl (op2_of (opN_of (args2 rfl rfl) e1) (op2_of rfl rfl (t := .int R) rfl) (mod_ok (by omega))) rfl)
  have s4 : asg 3 (opN d_ways [(nmV 1), (nmV 2)]) [some (.imm (scriptT sc)), some (.imm (houseT R os)), some (.imm (.int room)), none, none, none, none, none, none, none, none, none] = some (.nx (envL (scriptT sc) (houseT R os) room ths none none none none none none none none)) := asg_of (opN_of (args2 rfl rfl) hwt)
  have s5 : asg 4 (cst .none) (envL (scriptT sc) (houseT R os) room ths none none none none none none none none) = some (.nx (envL (scriptT sc) (houseT R os) room ths (some (.imm (bT none))) none none none none none none none)) := rfl
  obtain ⟨j5, hbl⟩ := b_loop (scriptT sc) (houseT R os) room ths (by omega) (fun w hw => by have := hwl w hw; omega) (setsL os.length) none none
  have irrK : ∀ {D : List Nat}, D.length = C.length → Hg.Lx (· < ·) C D → ltK C D = true ∧ ltK D C = false := fun {D} h1 h2 => by
    have h3 := lx_ltN h2
    have h4 : ltN D C = false := ltL_asym h3
    simp [ltK, h1, h3, h4]
  have hbest : (setsL os.length).foldl (nextB ths) none = some C := best_spec ths hCh (setsL os.length) none (fun D hD hh => by
    have hs := (sets_mem _ D).mp hD
    have hm := hCm D hs hh
    rcases Nat.lt_or_eq_of_le hm with q | q
    · right
      have h1 : ¬ D.length < C.length := by omega
      have h2 : ¬ D.length = C.length := by omega
      simp [ltK, q, h1, h2]
    · rcases hCl D hs hh q.symm with e | e
      · exact .inl e
      · exact .inr (irrK q.symm e)) (fun c h => by cases h) (.inl ((sets_mem _ C).mpr hCs))
  have s6 : for_ (itSeq (opN d_l_sets [(opN oLen [(op2 oIx (nm 1) (cst (.int 1)))])])) (gNm 5) bB (envL (scriptT sc) (houseT R os) room ths (some (.imm (bT none))) none none none none none none none) = some (.nx (envL (scriptT sc) (houseT R os) room ths (some (.imm (pT C))) j5 none none none none none none)) := by
    have h1 : opN d_l_sets [(opN oLen [(op2 oIx (nm 1) (cst (.int 1)))])] (envL (scriptT sc) (houseT R os) room ths (some (.imm (bT none))) none none none none none none none) = some (.list ((setsL os.length).map wT)) :=
      opN_of (args1 (opN_of (args1 (op2_of (x := houseT R os) rfl rfl (t := .tuple (os.map opT)) rfl)) (t := .int os.length) (by simp [oLen]))) (sets_eq os.length (by omega))
    simp only [for_, itSeq, h1, Option.bind_some]
    rw [hbl, hbest]
    rfl
  have t7 : tstB (op2 oNe (opN d_fewest [(nmV 1), (nmV 2)]) (op2 oIx (nm 4) (cst (.int 1)))) (envL (scriptT sc) (houseT R os) room ths (some (.imm (pT C))) j5 none none none none none none) = some false := by
    have := tstB_of (op2_of (o := oNe) (opN_of (args2 (f := nmV 1) (g := nmV 2) (ε := envL (scriptT sc) (houseT R os) room ths (some (.imm (pT C))) j5 none none none none none none) rfl rfl) hfw) (op2_of (o := oIx) (f := nm 4) (g := cst (.int 1)) (x := pT C) rfl rfl (t := wT C) rfl) (oNe_way C C))
    simpa using this
  have s8 : asg 6 (mkLst [(mkTup [])]) (envL (scriptT sc) (houseT R os) room ths (some (.imm (pT C))) j5 none none none none none none) = some (.nx (envL (scriptT sc) (houseT R os) room ths (some (.imm (pT C))) j5 (some (.imm (.list (([[]] : List (List (List Nat))).map rwT)))) none none none none none)) := asg_of (by simp [mkLst, mkTup, args, big, rwT])
  have hB0 : ∀ B ∈ ([[]] : List (List (List Nat))), B.Sublist ([] : List (List Nat)) := fun B hB => by
    have h0 : B = [] := by simpa using hB
    subst h0
    exact List.Sublist.refl _
  obtain ⟨b5, b7, b8, b9, b10, b11, hwlp⟩ := w_loop (scriptT sc) (houseT R os) room ths (some (.imm (pT C))) 0 ths [] [[]] j5 none none none none none (fun w hw => by have := hwl w (by simpa using hw); omega) (by simp; omega) hB0 (by
    simp only [List.length_cons, List.length_nil, Nat.zero_add, Nat.one_mul]
    exact Nat.pow_le_pow_right (by decide) (by omega))
  have s9 : for_ (itSeq (nmV 3)) (gNm 7) bW' (envL (scriptT sc) (houseT R os) room ths (some (.imm (pT C))) j5 (some (.imm (.list (([[]] : List (List (List Nat))).map rwT)))) none none none none none) = some (.nx (envL (scriptT sc) (houseT R os) room ths (some (.imm (pT C))) b5 (some (.imm (.list ((rowsF ths [[]]).map rwT)))) b7 b8 b9 b10 b11)) := by
    have it : itSeq (nmV 3) (envL (scriptT sc) (houseT R os) room ths (some (.imm (pT C))) j5 (some (.imm (.list (([[]] : List (List (List Nat))).map rwT)))) none none none none none) = some (ths.map wT) := rfl
    simp only [for_, it, Option.bind_some]
    exact hwlp
  have hrm : ∀ D, D ∈ rowsF ths [[]] ↔ D.Sublist ths ∧ D.Pairwise Hg.Apt := fun D => by
    have := rows_mem ths [] [[]] (fun B => by
      constructor
      · intro h
        have : B = [] := by simpa using h
        subst this
        exact ⟨List.Sublist.refl _, .nil⟩
      · rintro ⟨h, _⟩
        have : B = [] := List.sublist_nil.mp h
        simp [this]) D
    simpa using this
  have hrl : (rowsF ths [[]]).length ≤ 262144 := by
    have h1 := rows_len ths [[]]
    have h2 : 2 ^ ths.length ≤ 2 ^ 18 := Nat.pow_le_pow_right (by decide) hthl
    simp only [List.length_cons, List.length_nil, Nat.zero_add, Nat.one_mul] at h1
    exact Nat.le_trans h1 h2
  have hle : ∀ D ∈ rowsF ths [[]], D.length ≤ C.length := fun D hD => by
    obtain ⟨h1, h2⟩ := (hrm D).mp hD
    exact Hg.apart_le h2 fun w hw => hCh w (h1.subset hw)
  have hBin : B ∈ rowsF ths [[]] := (hrm B).mpr ⟨hB1, hB3⟩
  have s10 : asg 11 (opN oMaxL [(comp 1 [] (itSeq (nmV 6)) (gNm 0) (cstT true) (opN oLen [(nm 0)]))]) (envL (scriptT sc) (houseT R os) room ths (some (.imm (pT C))) b5 (some (.imm (.list ((rowsF ths [[]]).map rwT)))) b7 b8 b9 b10 b11) = some (.nx (envL (scriptT sc) (houseT R os) room ths (some (.imm (pT C))) b5 (some (.imm (.list ((rowsF ths [[]]).map rwT)))) b7 b8 b9 b10 (some (.imm (.int C.length))))) := by
    have hc : comp 1 [] (itSeq (nmV 6)) (gNm 0) (cstT true) (opN oLen [(nm 0)]) (envL (scriptT sc) (houseT R os) room ths (some (.imm (pT C))) b5 (some (.imm (.list ((rowsF ths [[]]).map rwT)))) b7 b8 b9 b10 b11) = some (.list (((rowsF ths [[]]).map fun B => (B.length : Int)).map .int)) := by
      have it : itSeq (nmV 6) (envL (scriptT sc) (houseT R os) room ths (some (.imm (pT C))) b5 (some (.imm (.list ((rowsF ths [[]]).map rwT)))) b7 b8 b9 b10 b11) = some ((rowsF ths [[]]).map rwT) := rfl
      have hcap : capEnv 1 [] (envL (scriptT sc) (houseT R os) room ths (some (.imm (pT C))) b5 (some (.imm (.list ((rowsF ths [[]]).map rwT)))) b7 b8 b9 b10 b11) = [none] := rfl
      simp only [comp, it, Option.bind_some, hcap, comp_lens, List.length_map]
      rw [if_pos (by unfold big; omega)]
      rfl
    refine asg_of (opN_of (args1 hc) ?_)
    have hmx : maxI ((rowsF ths [[]]).map fun B => (B.length : Int)) = (C.length : Int) := maxI_of (List.mem_map.mpr ⟨B, hBin, by rw [hB2]⟩) fun x hx => by
      obtain ⟨D, hD, rfl⟩ := List.mem_map.mp hx
      have := hle D hD
      omega
    simp only [oMaxL, intsOf_ints, Option.bind_some]
    rw [if_pos (by intro z; have := List.map_eq_nil_iff.mp z; rw [this] at hBin; cases hBin), hmx]
  have fin : rtn (op2 oEq (opN d_apart [(nmV 1), (nmV 2)]) (opN oMinD [(comp 1 [11] (itSeq (nmV 6)) (gNm 0) (tstB (op2 oEq (opN oLen [(nm 0)]) (nm 1))) (nmV 0))])) (envL (scriptT sc) (houseT R os) room ths (some (.imm (pT C))) b5 (some (.imm (.list ((rowsF ths [[]]).map rwT)))) b7 b8 b9 b10 (some (.imm (.int C.length)))) = some (.rt (.bool true)) := by
    have hc : comp 1 [11] (itSeq (nmV 6)) (gNm 0) (tstB (op2 oEq (opN oLen [(nm 0)]) (nm 1))) (nmV 0) (envL (scriptT sc) (houseT R os) room ths (some (.imm (pT C))) b5 (some (.imm (.list ((rowsF ths [[]]).map rwT)))) b7 b8 b9 b10 (some (.imm (.int C.length)))) = some (.list (((rowsF ths [[]]).filter fun B => decide (B.length = C.length)).map rwT)) := by
      have it : itSeq (nmV 6) (envL (scriptT sc) (houseT R os) room ths (some (.imm (pT C))) b5 (some (.imm (.list ((rowsF ths [[]]).map rwT)))) b7 b8 b9 b10 (some (.imm (.int C.length)))) = some ((rowsF ths [[]]).map rwT) := rfl
      have hcap : capEnv 1 [11] (envL (scriptT sc) (houseT R os) room ths (some (.imm (pT C))) b5 (some (.imm (.list ((rowsF ths [[]]).map rwT)))) b7 b8 b9 b10 (some (.imm (.int C.length)))) = [none, some (.imm (.int C.length))] := rfl
      simp only [comp, it, Option.bind_some, hcap, comp_many, List.length_map]
      rw [if_pos (by unfold big; omega)]
      rfl
    have hm : opN oMinD [(comp 1 [11] (itSeq (nmV 6)) (gNm 0) (tstB (op2 oEq (opN oLen [(nm 0)]) (nm 1))) (nmV 0))] (envL (scriptT sc) (houseT R os) room ths (some (.imm (pT C))) b5 (some (.imm (.list ((rowsF ths [[]]).map rwT)))) b7 b8 b9 b10 (some (.imm (.int C.length)))) = some (rwT B) := by
      refine opN_of (args1 hc) ?_
      have hok : okL (((rowsF ths [[]]).filter fun B => decide (B.length = C.length)).map rwT) = true := by
        have := ok_rows ((rowsF ths [[]]).filter fun B => decide (B.length = C.length))
        simp [okL, this.1]
        omega
      simp only [oMinD, hok, if_true]
      refine minD_of (List.mem_filter.mpr ⟨hBin, by simpa using hB2⟩) fun D hD => ?_
      obtain ⟨h1, h2⟩ := List.mem_filter.mp hD
      obtain ⟨h3, h4⟩ := (hrm D).mp h1
      rcases hBl D h3 (by simpa using h2) h4 with e | e
      · exact .inl e
      · exact .inr (lx_ltR e)
    have h1 := op2_of (o := oEq) (opN_of (args2 (f := nmV 1) (g := nmV 2) (ε := envL (scriptT sc) (houseT R os) room ths (some (.imm (pT C))) b5 (some (.imm (.list ((rowsF ths [[]]).map rwT)))) b7 b8 b9 b10 (some (.imm (.int C.length)))) rfl rfl) hap) hm (oEq_row B B)
    simp only [rtn, h1, Option.map_some]
    simp
  have e9 : d_law [scriptT sc] = (b_law (env0 sc)).bind fun o => match o with | .rt t => some t | .nx _ => some .none | _ => none := rfl
  rw [e9]
  have run : b_law (env0 sc) = some (.rt (.bool true)) := by
    unfold bB at s6
    unfold bW' bV bU at s9
    unfold b_law
    rw [seq_nx s1, seq_nx s2, seq_nx s3, seq_nx s4, seq_nx s5, seq_nx s6, seq_nx (iff_skip t7), seq_nx s8, seq_nx s9, seq_nx s10, fin]
  rw [run]
  rfl
end K21
end
section
set_option linter.all false
set_option Elab.async false
set_option maxRecDepth 100000
set_option autoImplicit false
set_option maxHeartbeats 0
namespace K21
open PySem PySem.Spec PyProof.Rows L2 D Ho Wo
theorem all_mk {l : PySem.W.OpenLaw} {w : World} {K : PySem.W.Frag} {h : Heap} {mg : Str → Option Value} {fa f1 f2 f3 f4 f5 f6 f7 f8 f9 f10 f11 f12 f13 f14 : Addr} {od1 od2 od3 od4 od5 od6 od7 od8 od9 od10 od11 od12 od13 od14 an1 an2 an3 an4 an5 an6 an7 an8 an9 an10 an11 an12 an13 an14 : Option Addr} {sl1 sl2 sl3 sl4 sl5 sl6 sl7 sl8 sl9 sl10 sl11 sl12 sl13 sl14 : Array (Option Value)} {oc1 oc2 oc3 oc4 oc5 oc6 oc7 oc8 oc9 oc10 oc11 oc12 oc13 oc14 kV1 kV2 kV3 kV4 kV5 kV6 kV7 kV8 kV9 kV10 kV11 kV12 kV13 kV14 dc1 dc2 dc3 dc4 dc5 dc6 dc7 dc8 dc9 dc10 dc11 dc12 dc13 dc14 pm1 pm2 pm3 pm4 pm5 pm6 pm7 pm8 pm9 pm10 pm11 pm12 pm13 pm14 cd1 cd2 cd3 cd4 cd5 cd6 cd7 cd8 cd9 cd10 cd11 cd12 cd13 cd14 ct1 ct2 ct3 ct4 ct5 ct6 ct7 ct8 ct9 ct10 ct11 ct12 ct13 ct14 : Value} {tg1 : Tok} (X : K.In h) (G : h.Ns mainGlobals mg) (hfa : mg "law" = some (.ref fa))
    (a1 : PySem.W.nsIn K mainGlobals "beyond" = some (some (.ref f1))) (l1 : K.lookup f1 = some ⟨oc1, od1, .func (PySem.W.fnOf "beyond" "beyond" (defArgs s_beyond) (defBody s_beyond) (defScope s_beyond) .none kV1 dc1 pm1 an1 cd1 ct1), sl1⟩) (c1 : PySem.W.codeIn K cd1 "beyond" = true) (k1 : PySem.W.keepIn K (.ref f1) = true)
    (a2 : PySem.W.nsIn K mainGlobals "ways_on" = some (some (.ref f2))) (l2 : K.lookup f2 = some ⟨oc2, od2, .func (PySem.W.fnOf "ways_on" "ways_on" (defArgs s_ways_on) (defBody s_ways_on) (defScope s_ways_on) .none kV2 dc2 pm2 an2 cd2 ct2), sl2⟩) (c2 : PySem.W.codeIn K cd2 "ways_on" = true) (k2 : PySem.W.keepIn K (.ref f2) = true)
    (a3 : PySem.W.nsIn K mainGlobals "ways" = some (some (.ref f3))) (l3 : K.lookup f3 = some ⟨oc3, od3, .func (PySem.W.fnOf "ways" "ways" (defArgs s_ways) (defBody s_ways) (defScope s_ways) .none kV3 dc3 pm3 an3 cd3 ct3), sl3⟩) (c3 : PySem.W.codeIn K cd3 "ways" = true) (k3 : PySem.W.keepIn K (.ref f3) = true)
    (a4 : PySem.W.nsIn K mainGlobals "stops" = some (some (.ref f4))) (l4 : K.lookup f4 = some ⟨oc4, od4, .func (PySem.W.fnOf "stops" "stops" (defArgs s_stops) (defBody s_stops) (defScope s_stops) .none kV4 dc4 pm4 an4 cd4 ct4), sl4⟩) (c4 : PySem.W.codeIn K cd4 "stops" = true) (k4 : PySem.W.keepIn K (.ref f4) = true)
    (a5 : PySem.W.nsIn K mainGlobals "fewest" = some (some (.ref f5))) (l5 : K.lookup f5 = some ⟨oc5, od5, .func (PySem.W.fnOf "fewest" "fewest" (defArgs s_fewest) (defBody s_fewest) (defScope s_fewest) .none kV5 dc5 pm5 an5 cd5 ct5), sl5⟩) (c5 : PySem.W.codeIn K cd5 "fewest" = true) (k5 : PySem.W.keepIn K (.ref f5) = true)
    (a6 : PySem.W.nsIn K mainGlobals "are_apart" = some (some (.ref f6))) (l6 : K.lookup f6 = some ⟨oc6, od6, .func (PySem.W.fnOf "are_apart" "are_apart" (defArgs s_are_apart) (defBody s_are_apart) (defScope s_are_apart) .none kV6 dc6 pm6 an6 cd6 ct6), sl6⟩) (c6 : PySem.W.codeIn K cd6 "are_apart" = true) (k6 : PySem.W.keepIn K (.ref f6) = true)
    (a7 : PySem.W.nsIn K mainGlobals "first_apart" = some (some (.ref f7))) (l7 : K.lookup f7 = some ⟨oc7, od7, .func (PySem.W.fnOf "first_apart" "first_apart" (defArgs s_first_apart) (defBody s_first_apart) (defScope s_first_apart) .none kV7 dc7 pm7 an7 cd7 ct7), sl7⟩) (c7 : PySem.W.codeIn K cd7 "first_apart" = true) (k7 : PySem.W.keepIn K (.ref f7) = true)
    (a8 : PySem.W.nsIn K mainGlobals "apart" = some (some (.ref f8))) (l8 : K.lookup f8 = some ⟨oc8, od8, .func (PySem.W.fnOf "apart" "apart" (defArgs s_apart) (defBody s_apart) (defScope s_apart) .none kV8 dc8 pm8 an8 cd8 ct8), sl8⟩) (c8 : PySem.W.codeIn K cd8 "apart" = true) (k8 : PySem.W.keepIn K (.ref f8) = true)
    (a9 : PySem.W.nsIn K mainGlobals "_law_cell_at" = some (some (.ref f9))) (l9 : K.lookup f9 = some ⟨oc9, od9, .func (PySem.W.fnOf "_law_cell_at" "_law_cell_at" (defArgs s_l_cell_at) (defBody s_l_cell_at) (defScope s_l_cell_at) .none kV9 dc9 pm9 an9 cd9 ct9), sl9⟩) (c9 : PySem.W.codeIn K cd9 "_law_cell_at" = true) (k9 : PySem.W.keepIn K (.ref f9) = true)
    (a10 : PySem.W.nsIn K mainGlobals "_law_mixed" = some (some (.ref f10))) (l10 : K.lookup f10 = some ⟨oc10, od10, .func (PySem.W.fnOf "_law_mixed" "_law_mixed" (defArgs s_l_mixed) (defBody s_l_mixed) (defScope s_l_mixed) .none kV10 dc10 pm10 an10 cd10 ct10), sl10⟩) (c10 : PySem.W.codeIn K cd10 "_law_mixed" = true) (k10 : PySem.W.keepIn K (.ref f10) = true)
    (a11 : PySem.W.nsIn K mainGlobals "_law_drawn" = some (some (.ref f11))) (l11 : K.lookup f11 = some ⟨oc11, od11, .func (PySem.W.fnOf "_law_drawn" "_law_drawn" (defArgs s_l_drawn) (defBody s_l_drawn) (defScope s_l_drawn) .none kV11 dc11 pm11 an11 cd11 ct11), sl11⟩) (c11 : PySem.W.codeIn K cd11 "_law_drawn" = true) (k11 : PySem.W.keepIn K (.ref f11) = true)
    (a12 : PySem.W.nsIn K mainGlobals "_law_house" = some (some (.ref f12))) (l12 : K.lookup f12 = some ⟨oc12, od12, .func (PySem.W.fnOf "_law_house" "_law_house" (defArgs s_l_house) (defBody s_l_house) (defScope s_l_house) .none kV12 dc12 pm12 an12 cd12 ct12), sl12⟩) (c12 : PySem.W.codeIn K cd12 "_law_house" = true) (k12 : PySem.W.keepIn K (.ref f12) = true)
    (a13 : PySem.W.nsIn K mainGlobals "_law_sets" = some (some (.ref f13))) (l13 : K.lookup f13 = some ⟨oc13, od13, .func (PySem.W.fnOf "_law_sets" "_law_sets" (defArgs s_l_sets) (defBody s_l_sets) (defScope s_l_sets) .none kV13 dc13 pm13 an13 cd13 ct13), sl13⟩) (c13 : PySem.W.codeIn K cd13 "_law_sets" = true) (k13 : PySem.W.keepIn K (.ref f13) = true)
    (a14 : PySem.W.nsIn K mainGlobals "law" = some (some (.ref f14))) (l14 : K.lookup f14 = some ⟨oc14, od14, .func (PySem.W.fnOf "law" "law" (defArgs s_law) (defBody s_law) (defScope s_law) .none kV14 dc14 pm14 an14 cd14 ct14), sl14⟩) (c14 : PySem.W.codeIn K cd14 "law" = true) (k14 : PySem.W.keepIn K (.ref f14) = true)
    (z1 : PySem.W.nsIn K mainGlobals "any" = some none)
    (z2 : PySem.W.nsIn K mainGlobals "enumerate" = some none)
    (z3 : PySem.W.nsIn K mainGlobals "len" = some none)
    (z4 : PySem.W.nsIn K mainGlobals "list" = some none)
    (z5 : PySem.W.nsIn K mainGlobals "max" = some none)
    (z6 : PySem.W.nsIn K mainGlobals "min" = some none)
    (z7 : PySem.W.nsIn K mainGlobals "range" = some none)
    (z8 : PySem.W.nsIn K mainGlobals "tuple" = some none)
    (g1 : PySem.W.nsIn K mainGlobals "OUTSIDE" = some (some (.int 0 tg1))) :
    ∃ fd : FuncData, (∀ (s : Shared) (v : Value), BindsTo s fd ⟨[v], []⟩ [("_law_script", v)]) ∧ ∀ base : Heap, K.In base → base.Ns mainGlobals mg → FnOk l.prog w K mg base CX0 25 fa fd ["_law_script"] (spT K 1 d_law) := by
  have e := hfa.symm.trans (PySem.W.mg_of X G a14)
  cases e
  refine ⟨PySem.W.fnOf "law" "law" (defArgs s_law) (defBody s_law) (defScope s_law) .none kV14 dc14 pm14 an14 cd14 ct14, fun s v => .of_eq rfl, fun base _ _ => ?_⟩
  have z_any := PySem.W.mg_none_of X G z1
  have z_enumerate := PySem.W.mg_none_of X G z2
  have z_len := PySem.W.mg_none_of X G z3
  have z_list := PySem.W.mg_none_of X G z4
  have z_max := PySem.W.mg_none_of X G z5
  have z_min := PySem.W.mg_none_of X G z6
  have z_range := PySem.W.mg_none_of X G z7
  have z_tuple := PySem.W.mg_none_of X G z8
  have g_OUTSIDE := PySem.W.mg_of X G g1
  have F1 := fun_mk (st := s_beyond) l1 c1 k1
  have F2 := fun_mk (st := s_ways_on) l2 c2 k2
  have F3 := fun_mk (st := s_ways) l3 c3 k3
  have F4 := fun_mk (st := s_stops) l4 c4 k4
  have F5 := fun_mk (st := s_fewest) l5 c5 k5
  have F6 := fun_mk (st := s_are_apart) l6 c6 k6
  have F7 := fun_mk (st := s_first_apart) l7 c7 k7
  have F8 := fun_mk (st := s_apart) l8 c8 k8
  have F9 := fun_mk (st := s_l_cell_at) l9 c9 k9
  have F10 := fun_mk (st := s_l_mixed) l10 c10 k10
  have F11 := fun_mk (st := s_l_drawn) l11 c11 k11
  have F12 := fun_mk (st := s_l_house) l12 c12 k12
  have F13 := fun_mk (st := s_l_sets) l13 c13 k13
  have F14 := fun_mk (st := s_law) l14 c14 k14
  have C_beyond := c_beyond (P := l.prog) (w := w) (base := base) (k := 0) F1 (PySem.W.mg_of X G a1)
  have C_ways_on := c_ways_on (P := l.prog) (w := w) (base := base) (k := 1) F2 (PySem.W.mg_of X G a2) z_enumerate (C_beyond.mono (by decide)) 20
  have C_ways := c_ways (P := l.prog) (w := w) (base := base) (k := 21) F3 (PySem.W.mg_of X G a3) z_tuple (C_ways_on.mono (by decide)) g_OUTSIDE
  have C_stops := c_stops (P := l.prog) (w := w) (base := base) (k := 0) F4 (PySem.W.mg_of X G a4) z_enumerate z_len 20
  have C_fewest := c_fewest (P := l.prog) (w := w) (base := base) (k := 22) F5 (PySem.W.mg_of X G a5) (C_ways.mono (by decide)) z_tuple z_range (C_stops.mono (by decide)) z_len
  have C_are_apart := c_are_apart (P := l.prog) (w := w) (base := base) (k := 0) F6 (PySem.W.mg_of X G a6) z_any
  have C_first_apart := c_first_apart (P := l.prog) (w := w) (base := base) (k := 1) F7 (PySem.W.mg_of X G a7) z_enumerate (C_are_apart.mono (by decide)) 20
  have C_apart := c_apart (P := l.prog) (w := w) (base := base) (k := 23) F8 (PySem.W.mg_of X G a8) (C_first_apart.mono (by decide)) (C_ways.mono (by decide)) z_len (C_fewest.mono (by decide))
  have C_l_cell_at := c_l_cell_at (P := l.prog) (w := w) (base := base) (k := 0) F9 (PySem.W.mg_of X G a9) z_len
  have C_l_mixed := c_l_mixed (P := l.prog) (w := w) (base := base) (k := 1) F10 (PySem.W.mg_of X G a10) (C_l_cell_at.mono (by decide))
  have C_l_drawn := c_l_drawn (P := l.prog) (w := w) (base := base) (k := 0) F11 (PySem.W.mg_of X G a11)
  have C_l_house := c_l_house (P := l.prog) (w := w) (base := base) (k := 1) F12 (PySem.W.mg_of X G a12) z_range (C_l_drawn.mono (by decide)) z_min z_max
  have C_l_sets := c_l_sets (P := l.prog) (w := w) (base := base) (k := 0) F13 (PySem.W.mg_of X G a13) z_range
  exact f_law (k := 24) F14 (C_l_house.mono (by decide)) (C_ways.mono (by decide)) (C_l_sets.mono (by decide)) z_max (C_l_mixed.mono (by decide)) z_len (C_fewest.mono (by decide)) (C_apart.mono (by decide)) z_min z_list
theorem walk {l : PySem.W.OpenLaw} {q : Program} {loose : List Str} {XP : (Str → Option Value) → Heap → Prop} {YP : World → Heap → Prop} {d : DefRec} {K : Params → PySem.W.Frag} (hn : l.most = some 63) (hdf : d.params.defaults = [])
    (hL : ∀ w : World, noL (K w.params) = true) (hY : ∀ (w : World) (h : Heap), YP w h → (K w.params).In h)
    (F : ∀ (w : World) (mg : Str → Option Value) (fa : Addr) (h : Heap), (K w.params).In h → h.Ns mainGlobals mg → mg d.name = some (.ref fa) →
      ∃ fd : FuncData, (∀ (s : Shared) (u : Value), BindsTo s fd ⟨[u], []⟩ [("_law_script", u)]) ∧ ∀ base : Heap, (K w.params).In base → base.Ns mainGlobals mg → FnOk l.prog w (K w.params) mg base CX0 25 fa fd ["_law_script"] (spT (K w.params) 1 d_law)) :
    PySem.W.WalkO q loose XP YP l.row.toRowW d [] (fun f vs => PySem.call f vs) :=
  L2.walk_of (n := 63) (k := 25) (x := "_law_script") (CX := fun _ => CX0) (sp := fun w => spT (K w.params) 1 d_law) hn (by decide) hdf ⟨rfl, by decide, by decide⟩ hY F (fun w _ _ ns _ _ hS => sp_start (hL w) (law_true ns) hS) fun _ _ _ _ _ z => z
end K21
open PySem PySem.W PyProof.Rows
set_option maxRecDepth 100000 in
set_option maxHeartbeats 0 in
theorem PySem.Challenge.cw_doorwatch_k21_fewest_and_apart_holds : PySem.Challenge.rw_doorwatch_k21_fewest_and_apart.Holds := by
  w_on; o_law; k_head; (case hw => w_witness2)
  k_fill
  refine K21.walk (l := PySem.Challenge.rw_doorwatch_k21_fewest_and_apart) rfl rfl ?L (fun w h Y => PySem.W.kIn_of Y) ?F
  case L =>
    intro w
    first | rfl | (with_unfolding_all rfl) | kernel_rfl
  case F =>
    intro w mg fa h KX G hmg
    refine' K21.all_mk KX G hmg ?a1 ?l1 ?c1 ?k1 ?a2 ?l2 ?c2 ?k2 ?a3 ?l3 ?c3 ?k3 ?a4 ?l4 ?c4 ?k4 ?a5 ?l5 ?c5 ?k5 ?a6 ?l6 ?c6 ?k6 ?a7 ?l7 ?c7 ?k7 ?a8 ?l8 ?c8 ?k8 ?a9 ?l9 ?c9 ?k9 ?a10 ?l10 ?c10 ?k10 ?a11 ?l11 ?c11 ?k11 ?a12 ?l12 ?c12 ?k12 ?a13 ?l13 ?c13 ?k13 ?a14 ?l14 ?c14 ?k14 ?z1 ?z2 ?z3 ?z4 ?z5 ?z6 ?z7 ?z8 ?g1
    (case a1 => k_is)
    (case l1 => k_is)
    (case c1 => k_is)
    (case k1 => k_is)
    (case a2 => k_is)
    (case l2 => k_is)
    (case c2 => k_is)
    (case k2 => k_is)
    (case a3 => k_is)
    (case l3 => k_is)
    (case c3 => k_is)
    (case k3 => k_is)
    (case a4 => k_is)
    (case l4 => k_is)
    (case c4 => k_is)
    (case k4 => k_is)
    (case a5 => k_is)
    (case l5 => k_is)
    (case c5 => k_is)
    (case k5 => k_is)
    (case a6 => k_is)
    (case l6 => k_is)
    (case c6 => k_is)
    (case k6 => k_is)
    (case a7 => k_is)
    (case l7 => k_is)
    (case c7 => k_is)
    (case k7 => k_is)
    (case a8 => k_is)
    (case l8 => k_is)
    (case c8 => k_is)
    (case k8 => k_is)
    (case a9 => k_is)
    (case l9 => k_is)
    (case c9 => k_is)
    (case k9 => k_is)
    (case a10 => k_is)
    (case l10 => k_is)
    (case c10 => k_is)
    (case k10 => k_is)
    (case a11 => k_is)
    (case l11 => k_is)
    (case c11 => k_is)
    (case k11 => k_is)
    (case a12 => k_is)
    (case l12 => k_is)
    (case c12 => k_is)
    (case k12 => k_is)
    (case a13 => k_is)
    (case l13 => k_is)
    (case c13 => k_is)
    (case k13 => k_is)
    (case a14 => k_is)
    (case l14 => k_is)
    (case c14 => k_is)
    (case k14 => k_is)
    (case z1 => k_is)
    (case z2 => k_is)
    (case z3 => k_is)
    (case z4 => k_is)
    (case z5 => k_is)
    (case z6 => k_is)
    (case z7 => k_is)
    (case z8 => k_is)
    (case g1 => k_is)
end
