import PyProof.Rows.All
import Wide.All
import OpenK.AllK
import Wide.FinOn
import Lean
import PyProof.EqAt
import PyProof.EqKinds
import PyProof.TupleCall
import PyProof.P3Statements
import PySem.Challenge.RW_doorwatch_k23_whole_unseen
section
set_option Elab.async false
set_option linter.all false
set_option maxRecDepth 100000
/-! THE HAND LAYER, for ints, bools, texts, own classes, LISTS and tuples (index, slices, in, append, pop ..), calls, loops. Paste it whole ahead of your own text; what your proof does not reach may be deleted. -/
namespace L2
open PySem PySem.Spec PyProof.Rows

/-- a key: an int or a str -/
abbrev Key := Sum Int Str
def keyIs : Key → Value → Bool
  | .inl k, v => Value.isInt k v
  | .inr x, v => Value.isStrOf x v
def keyH (w : World) : Key → Int
  | .inl k => hashInt k
  | .inr x => hashStr w x
theorem keyIs_shape : ∀ {k : Key} {v : Value}, keyIs k v = true → (∃ i t, k = Sum.inl i ∧ v = Value.int i t) ∨ (∃ x t, k = Sum.inr x ∧ v = Value.str x t)
  | .inl i, v, h => by
    obtain ⟨t, e⟩ := Value.isInt_shape (k := i) (v := v) h
    exact .inl ⟨i, t, rfl, e⟩
  | .inr x, v, h => by
    obtain ⟨t, e⟩ := Value.isStrOf_shape (x := x) (v := v) h
    exact .inr ⟨x, t, rfl, e⟩
theorem keyIs_int (i : Int) (t : Tok) : keyIs (.inl i) (.int i t) = true := by simp [keyIs, Value.isInt]
theorem keyIs_str (x : Str) (t : Tok) : keyIs (.inr x) (.str x t) = true := by simp [keyIs, Value.isStrOf]
theorem key_ll (a b : Int) : decide ((Sum.inl a : Key) = Sum.inl b) = (a == b) := by
  by_cases e : a = b
  · subst e; simp
  · have h : ¬ (Sum.inl a : Key) = Sum.inl b := fun q => e (Sum.inl.inj q)
    rw [decide_eq_false h]
    exact (beq_eq_false_iff_ne.mpr e).symm
theorem key_rr (a b : Str) : decide ((Sum.inr a : Key) = Sum.inr b) = decide (a = b) := by
  by_cases e : a = b
  · subst e; simp
  · have h : ¬ (Sum.inr a : Key) = Sum.inr b := fun q => e (Sum.inr.inj q)
    rw [decide_eq_false h, decide_eq_false e]
theorem key_lr (a : Int) (b : Str) : decide ((Sum.inl a : Key) = Sum.inr b) = false := decide_eq_false (fun q => nomatch q)
theorem key_rl (a : Str) (b : Int) : decide ((Sum.inr a : Key) = Sum.inl b) = false := decide_eq_false (fun q => nomatch q)

def mixKind (prog : Program) (w : World) : PySem.KeyKind prog w Key where
  is := keyIs
  hash := keyH w
  inj := fun v a b ha hb => by
    rcases keyIs_shape ha with ⟨i, t, rfl, rfl⟩ | ⟨x, t, rfl, rfl⟩
    · rcases keyIs_shape hb with ⟨j, u, rfl, e⟩ | ⟨y, u, rfl, e⟩
      · injection e with e1 _; rw [e1]
      · exact nomatch e
    · rcases keyIs_shape hb with ⟨j, u, rfl, e⟩ | ⟨y, u, rfl, e⟩
      · exact nomatch e
      · injection e with e1 _; rw [e1]
  byValue := fun k v h => by
    rcases keyIs_shape h with ⟨i, t, rfl, rfl⟩ | ⟨x, t, rfl, rfl⟩ <;> rfl
  pyHash := fun hv h => by
    rcases keyIs_shape hv with ⟨i, t, rfl, rfl⟩ | ⟨x, t, rfl, rfl⟩
    · exact wpAny_pyHash_int h
    · exact wpAny_pyHash_str h
  eqBool := fun hu hv h => by
    rcases keyIs_shape hu with ⟨i, t, rfl, rfl⟩ | ⟨x, t, rfl, rfl⟩
    · rcases keyIs_shape hv with ⟨j, u, rfl, rfl⟩ | ⟨y, u, rfl, rfl⟩
      · rw [key_ll] at h; exact wpAny_eqBool_int h
      · rw [key_lr] at h; exact SeqAt.EqAt.int_str i t y u _ _ _ _ h
    · rcases keyIs_shape hv with ⟨j, u, rfl, rfl⟩ | ⟨y, u, rfl, rfl⟩
      · rw [key_rl] at h; exact SeqAt.EqAt.str_int x t j u _ _ _ _ h
      · rw [key_rr] at h; exact wpAny_eqBool_str h
  «strs» := fun k x t v h => by
    rcases keyIs_shape h with ⟨i, u, rfl, e⟩ | ⟨y, u, rfl, e⟩
    · exact nomatch e
    · injection e with e1 _
      subst e1
      cases v <;> rfl

theorem mixKind_is (prog : Program) (w : World) (k : Key) (v : Value) : (mixKind prog w).is k v = keyIs k v := rfl
theorem mixKind_int (prog : Program) (w : World) (i : Int) (t : Tok) : (mixKind prog w).is (.inl i) (.int i t) = true := keyIs_int i t
theorem mixKind_str (prog : Program) (w : World) (x : Str) (t : Tok) : (mixKind prog w).is (.inr x) (.str x t) = true := keyIs_str x t
end L2

namespace L2
open PySem PySem.Spec PyProof.Rows

/-- a value, without the heap -/
inductive V where
  | non | bl (b : Bool) | int (i : Int) | str (x : Str) | byt (b : Array UInt8) | flt (b : UInt64) | ref (a : Addr) | ty (n : String)
  deriving DecidableEq

def RelV : V → Value → Prop
  | .non, u => u = Value.none
  | .bl b, u => u = Value.bool b
  | .int i, u => ∃ t, u = Value.int i t
  | .str x, u => ∃ t, u = Value.str x t
  | .byt b, u => ∃ t, u = Value.bytes b t
  | .flt b, u => ∃ t, u = Value.float b t
  | .ref a, u => u = Value.ref a
  | .ty n, u => u = Value.type n

abbrev Vals : List V → List Value → Prop := Paired RelV
theorem Vals.length {xs : List V} {us : List Value} (r : Vals xs us) : xs.length = us.length := Paired.length r
theorem Vals.get : ∀ {xs : List V} {us : List Value} {i : Nat} {x : V}, Vals xs us → xs[i]? = some x → ∃ u, us[i]? = some u ∧ RelV x u
  | _, _, _, _, .nil, e => by simp at e
  | _, _, 0, _, .cons r _, e => by simp at e; subst e; exact ⟨_, rfl, r⟩
  | _, _, i + 1, x, .cons _ t, e => by
    obtain ⟨u, h1, h2⟩ := Vals.get (i := i) (x := x) t (by simpa using e)
    exact ⟨u, by simpa using h1, h2⟩
theorem Vals.set {x : V} {u : Value} (r : RelV x u) : ∀ {xs : List V} {us : List Value} (i : Nat), Vals xs us → Vals (xs.set i x) (us.set i u)
  | _, _, _, .nil => .nil
  | _, _, 0, .cons _ t => .cons r t
  | _, _, i + 1, .cons q t => .cons q (Vals.set r i t)
theorem Vals.append : ∀ {xs ys : List V} {us ws : List Value}, Vals xs us → Vals ys ws → Vals (xs ++ ys) (us ++ ws)
  | _, _, _, _, .nil, s => s
  | _, _, _, _, .cons r t, s => .cons r (Vals.append t s)
theorem Vals.take : ∀ {xs : List V} {us : List Value} (n : Nat), Vals xs us → Vals (xs.take n) (us.take n)
  | _, _, 0, _ => .nil
  | _, _, _ + 1, .nil => .nil
  | _, _, n + 1, .cons r t => .cons r (Vals.take n t)
theorem Vals.drop : ∀ {xs : List V} {us : List Value} (n : Nat), Vals xs us → Vals (xs.drop n) (us.drop n)
  | _, _, 0, r => r
  | _, _, _ + 1, .nil => .nil
  | _, _, n + 1, .cons _ t => Vals.drop n t
theorem Vals.none_of : ∀ {xs : List V} {us : List Value} {i : Nat}, Vals xs us → xs[i]? = none → us[i]? = none := fun {xs us i} r e => by
  have h1 := r.length
  have h2 : xs.length ≤ i := List.getElem?_eq_none_iff.mp e
  exact List.getElem?_eq_none_iff.mpr (by omega)

def RelO : Option V → Option Value → Prop
  | some v, some u => RelV v u
  | none, none => True
  | _, _ => False
def KV {κ : Type} : List (κ × V) → List (κ × Value) → Prop := Paired fun (p : κ × V) (q : κ × Value) => p.1 = q.1 ∧ RelV p.2 q.2

/-- a key of a dict (00_mix): an int or a text -/
def kV : Key → V
  | .inl i => .int i
  | .inr x => .str x

/-- what stands at a tracked address -/
inductive HO where
  /-- a list -/
  | lst (xs : List V)
  /-- a tuple (never changes) -/
  | tup (xs : List V)
  /-- a dict whose keys are ints and texts; one whose keys are tuples of ints and texts (the empty one is both) -/
  | dK (kvs : List (Key × V)) | dT (kvs : List (List Key × V))
  /-- a set of ints: its members, its size -/
  | set (S : Int → Bool) (n : Nat)
  /-- an instance of the class at C, its dict at dx, its attributes -/
  | ins (C dx : Addr) (fs : List (Str × V))
  /-- the dict of the instance at x -/
  | own (x : Addr)
  /-- the dict of an exception -/
  | xd (fs : List (Str × V))
  /-- a bound method, f of x -/
  | met (f x : Addr)
  /-- a range object lo, lo + 1, .. below hi -/
  | rng (lo hi : Int)
  /-- a thing that is known to the object (the script; a dict while a loop walks it): read, never written while it is so -/
  | frz (o : Obj) (u : HO)
  /-- a code object's table -/
  | tbl (ps : Array Value)
  /-- any other thing, by what is true of its one object (a def of one's own: SetO a S n := HO.ext fun h => ..) -/
  | ext (φ : Heap → Prop)

abbrev Hp := Addr → Option HO
def upd (H : Hp) (a : Addr) (o : HO) : Hp := fun b => if b = a then some o else H b
theorem upd_same {H : Hp} {a : Addr} {o : HO} : upd H a o a = some o := by unfold upd; rw [if_pos rfl]
theorem upd_ne {H : Hp} {a b : Addr} {o : HO} (h : b ≠ a) : upd H a o b = H b := by unfold upd; rw [if_neg h]
theorem upd_upd {H : Hp} {a : Addr} {o u : HO} : upd (upd H a o) a u = upd H a u := by
  funext b; unfold upd; split <;> rfl
/-- two objects of different content stand apart -/
theorem ne_of {H : Hp} {a b : Addr} {o u : HO} (h : H a = some o) (h' : H b = some u) (d : o ≠ u) : a ≠ b := by
  intro e; subst e; rw [h] at h'; exact d (Option.some.inj h')
theorem ne_of_none {H : Hp} {a b : Addr} {o : HO} (h : H a = some o) (h' : H b = none) : a ≠ b := by
  intro e; subst e; rw [h] at h'; cases h'

section
variable (P : Program) (w : World)
def ObjOk (H : Hp) (h : Heap) (a : Addr) : HO → Prop
  | .lst xs => xs.length ≤ sizeLine ∧ ∃ (its : List Value) (n : Nat), Vals xs its ∧ h.get? a = some { cls := .type "list", data := .seq its.toArray n }
  | .tup xs => xs.length ≤ sizeLine ∧ ∃ its : List Value, Vals xs its ∧ IsTup h a its.toArray
  | .dK kvs => kvs.length ≤ sizeLine ∧ (a == sysModules) = false ∧ ∃ vs, KV kvs vs ∧ h.DictOf (mixKind P w) a vs
  | .dT kvs => kvs.length ≤ sizeLine ∧ (a == sysModules) = false ∧ ∃ xs : List (List Key × Addr × Value),
      Paired (fun (p : List Key × V) (q : List Key × Addr × Value) => p.1 = q.1 ∧ H q.2.1 = some (.tup (p.1.map kV)) ∧ RelV p.2 q.2.2) kvs xs ∧
      ∃ o es ep, h.get? a = some o ∧ o.ExactDict ∧ o.data = .dict es ep ∧ es.toList = xs.map (entryOfKey (tupleKind (mixKind P w))) ∧ (xs.map (·.1)).Nodup
  | .set S n => h.SetOf (intKind P w) a S n
  | .ins C dx fs => H dx = some (.own a) ∧ fs.length ≤ 1000 ∧ dx ≠ a ∧ h.get? a = some (PySem.W.instObj C dx) ∧
      ∃ mA, h.Ns1 dx mA ∧ (∀ f, RelO (fs.lookup f) (mA f)) ∧ PySem.Within mA (fs.map (·.1))
  | .own _ => ∃ o, h.get? a = some o
  | .xd fs => ∃ mA, h.Ns1 a mA ∧ ∀ f, RelO (fs.lookup f) (mA f)
  | .rng lo hi => ∃ t u v, h.get? a = some { cls := .type "range", data := .fields #[.int lo t, .int hi u, .int 1 v] }
  | .frz o u => h.get? a = some o ∧ ObjOk H h a u
  | .tbl ps => h.get? a = some { cls := .none, data := .fields ps }
  | .met f x => h.get? a = some (PySem.W.methodObj (.ref f) (.ref x))
  | .ext φ => φ h ∧ (∃ o, h.get? a = some o) ∧ ∀ h1 h2 : Heap, φ h1 → (∀ o, h1.get? a = some o → h2.get? a = some o) → φ h2
/-- the abstract heap is held -/
def HOk (H : Hp) (h : Heap) : Prop := ∀ a o, H a = some o → ObjOk P w H h a o
end

section
variable {P : Program} {w : World} {H H' : Hp} {h h' : Heap} {a : Addr} {o : HO}
theorem ObjOk.lt (x : ObjOk P w H h a o) : a < h.objs.size := by
  cases o with
  | lst xs => obtain ⟨_, _, _, _, e⟩ := x; exact Heap.lt_size e
  | tup xs => obtain ⟨_, _, _, p⟩ := x; exact p.lt
  | dK kvs => obtain ⟨_, _, _, _, o, _, _, e, _⟩ := x; exact Heap.lt_size e
  | dT kvs => obtain ⟨_, _, _, _, o, _, _, e, _⟩ := x; exact Heap.lt_size e
  | set S n => obtain ⟨o, _, _, _, e, _⟩ := x; exact Heap.lt_size e
  | ins C dx fs => obtain ⟨_, _, _, e, _⟩ := x; exact Heap.lt_size e
  | own y => obtain ⟨_, e⟩ := x; exact Heap.lt_size e
  | xd fs => obtain ⟨_, ⟨_, _, _, e, _⟩, _⟩ := x; exact Heap.lt_size e
  | rng lo hi => obtain ⟨_, _, _, e⟩ := x; exact Heap.lt_size e
  | frz ob u => obtain ⟨e, _⟩ := x; exact Heap.lt_size e
  | tbl ps => exact Heap.lt_size (show h.get? a = some _ from x)
  | met f y => exact Heap.lt_size (show h.get? a = some _ from x)
  | ext φ => obtain ⟨_, ⟨_, e⟩, _⟩ := x; exact Heap.lt_size e
theorem Paired.mapP {α β : Type} {F G : α → β → Prop} : ∀ {l₁ : List α} {l₂ : List β}, Paired F l₁ l₂ → (∀ a b, F a b → G a b) → Paired G l₁ l₂
  | _, _, .nil, _ => .nil
  | _, _, .cons r t, f => .cons (f _ _ r) (Paired.mapP t f)
theorem Paired.imp' {α β : Type} {F G : α → β → Prop} (f : ∀ a b, F a b → G a b) {l₁ : List α} {l₂ : List β} (r : Paired F l₁ l₂) : Paired G l₁ l₂ := Paired.mapP r f
/-- what an object's description leans on: its own object, its own dict, the tuples -/
theorem ObjOk.stay (x : ObjOk P w H h a o) (k : ∀ b u, (b = a ∨ H b = some (.own a)) → h.get? b = some u → h'.get? b = some u)
    (ho : ∀ b, H b = some (.own a) → H' b = some (.own a)) (ht : ∀ b xs, H b = some (.tup xs) → H' b = some (.tup xs)) : ObjOk P w H' h' a o := by
  induction o with
  | lst xs => obtain ⟨z, its, n, r, e⟩ := x; exact ⟨z, its, n, r, k _ _ (.inl rfl) e⟩
  | tup xs => obtain ⟨z, its, r, ob, e, c⟩ := x; exact ⟨z, its, r, ob, k _ _ (.inl rfl) e, c⟩
  | dK kvs => obtain ⟨z, y, vs, r, ob, es, ep, e, c⟩ := x; exact ⟨z, y, vs, r, ob, es, ep, k _ _ (.inl rfl) e, c⟩
  | dT kvs =>
    obtain ⟨z, y, xs, r, ob, es, ep, e, c⟩ := x
    exact ⟨z, y, xs, Paired.mapP r fun p q z => ⟨z.1, ht _ _ z.2.1, z.2.2⟩, ob, es, ep, k _ _ (.inl rfl) e, c⟩
  | set S n => obtain ⟨ob, es, ep, t, e, c⟩ := x; exact ⟨ob, es, ep, t, k _ _ (.inl rfl) e, c⟩
  | ins C dx fs =>
    obtain ⟨d, z, ne, e, mA, ⟨od, es, ep, e2, c⟩, r⟩ := x
    exact ⟨ho _ d, z, ne, k _ _ (.inl rfl) e, mA, ⟨od, es, ep, k _ _ (.inr d) e2, c⟩, r⟩
  | own y => obtain ⟨ob, e⟩ := x; exact ⟨ob, k _ _ (.inl rfl) e⟩
  | xd fs => obtain ⟨mA, ⟨od, es, ep, e, c⟩, r⟩ := x; exact ⟨mA, ⟨od, es, ep, k _ _ (.inl rfl) e, c⟩, r⟩
  | rng lo hi => obtain ⟨t, u, v, e⟩ := x; exact ⟨t, u, v, k _ _ (.inl rfl) e⟩
  | frz ob u ih => obtain ⟨e, q⟩ := x; exact ⟨k _ _ (.inl rfl) e, ih q⟩
  | tbl ps =>
    have e : h.get? a = some { cls := .none, data := .fields ps } := x
    show h'.get? a = some { cls := .none, data := .fields ps }
    exact k a _ (.inl rfl) e
  | met f y =>
    have e : h.get? a = some (PySem.W.methodObj (.ref f) (.ref y)) := x
    show h'.get? a = some (PySem.W.methodObj (.ref f) (.ref y))
    exact k a _ (.inl rfl) e
  | ext φ => obtain ⟨p, ⟨o, e⟩, st⟩ := x; exact ⟨st _ _ p fun o q => k _ _ (.inl rfl) q, ⟨o, k _ _ (.inl rfl) e⟩, st⟩
theorem HOk.lt (x : HOk P w H h) (e : H a = some o) : a < h.objs.size := (x a o e).lt
theorem HOk.fresh (x : HOk P w H h) (e : h.objs.size ≤ a) : H a = none := by
  cases q : H a with
  | none => rfl
  | some u => exact absurd (Nat.lt_of_lt_of_le (x.lt q) e) (Nat.lt_irrefl _)
/-- every object of the heap is kept -/
theorem HOk.kept (x : HOk P w H h) (k : ∀ b u, h.get? b = some u → h'.get? b = some u) : HOk P w H h' := fun a o e =>
  (x a o e).stay (fun b u _ q => k b u q) (fun _ q => q) fun _ _ q => q
/-- a new object is laid and tracked -/
theorem HOk.laid (x : HOk P w H h) (k : ∀ b u, h.get? b = some u → h'.get? b = some u) (hp : h.objs.size ≤ a) (new : ObjOk P w (upd H a o) h' a o) : HOk P w (upd H a o) h' := fun b u e => by
  have hn := x.fresh hp
  by_cases hb : b = a
  · subst hb; rw [upd_same] at e; cases e; exact new
  · rw [upd_ne hb] at e
    exact (x b u e).stay (fun c v _ q => k c v q) (fun c q => by rw [upd_ne (ne_of_none q hn)]; exact q) fun c xs q => by rw [upd_ne (ne_of_none q hn)]; exact q
end

/-- what may be read as u: it is u, or a known u -/
def Rd (H : Hp) (a : Addr) (u : HO) : Prop := H a = some u ∨ ∃ o, H a = some (.frz o u)
theorem Rd.of {H : Hp} {a : Addr} {u : HO} (h : H a = some u) : Rd H a u := .inl h
theorem Rd.ok {P : Program} {w : World} {H : Hp} {h : Heap} {a : Addr} {u : HO} (r : Rd H a u) (x : HOk P w H h) : ObjOk P w H h a u := by
  rcases r with r | ⟨o, r⟩
  · exact x a u r
  · obtain ⟨_, q⟩ := x a _ r
    exact q
/-- what may be written -/
def Mut : Option HO → Prop
  | some (.lst _) => True
  | some (.dK _) => True
  | some (.dT _) => True
  | some (.set _ _) => True
  | some (.ins _ _ _) => True
  | some (.ext _) => True
  | _ => False
section
variable {P : Program} {w : World} {H : Hp} {h h' : Heap} {x e : Addr} {o' : HO}
/-- the object at e is changed: x itself, or the dict of the instance x -/
theorem HOk.write (ok : HOk P w H h) (mu : Mut (H x)) (he : e = x ∨ H e = some (.own x)) (k : ∀ b u, b ≠ e → h.get? b = some u → h'.get? b = some u) (heo : ∃ u, h'.get? e = some u)
    (new : ObjOk P w (upd H x o') h' x o') : HOk P w (upd H x o') h' := fun b u q => by
  have nown : ∀ c y, H c = some (.own y) → c ≠ x := fun c y r z => by subst z; rw [r] at mu; exact mu
  have ntup : ∀ c xs, H c = some (.tup xs) → c ≠ x := fun c xs r z => by subst z; rw [r] at mu; exact mu
  by_cases hb : b = x
  · subst hb; rw [upd_same] at q; cases q; exact new
  · rw [upd_ne hb] at q
    by_cases hbe : b = e
    · have q' : H b = some (.own x) := by
        rcases he with z | z
        · exact absurd (hbe.trans z) hb
        · rw [hbe]; exact z
      rw [q] at q'; cases q'
      obtain ⟨v, hv⟩ := heo
      exact ⟨v, by rw [hbe]; exact hv⟩
    · refine (ok b u q).stay (fun c v hc r => k c v ?_ r) (fun c r => by rw [upd_ne (nown c b r)]; exact r) fun c xs r => by rw [upd_ne (ntup c xs r)]; exact r
      rcases hc with rfl | hc
      · exact hbe
      · rintro rfl
        rcases he with z | z
        · exact nown c b hc z
        · rw [hc] at z; cases z; exact hb rfl
end

/-! ### kept unless tracked; of the frames at fs (the callers') the slots may change (an exception that passes writes there); of the records at ex (iterators) nothing is said -/
structure Un (fs ex : List Addr) (H H' : Hp) (h h' : Heap) : Prop where
  keep : ∀ b o, h.get? b = some o → H b = none → b ∉ fs → b ∉ ex → h'.get? b = some o
  slot : ∀ b o, h.get? b = some o → H b = none → b ∈ fs → b ∉ ex → ∃ sl, h'.get? b = some { o with slots := sl }
  free : ∀ b o, h.get? b = some o → H b = none → b ∉ ex → H' b = none
  there : ∀ b o, h.get? b = some o → b ∉ ex → ∃ o', h'.get? b = some o'
  tups : ∀ b xs, H b = some (.tup xs) → H' b = some (.tup xs)
  frzs : ∀ b o u, H b = some (.frz o u) → H' b = some (.frz o u)
  tbls : ∀ b ps, H b = some (.tbl ps) → ∃ more, H' b = some (.tbl (ps ++ more))
section
variable {fs fs' ex ex' : List Addr} {H H1 H2 : Hp} {h h1 h2 h' : Heap} {a x e : Addr} {o : HO}
theorem Un.any (u : Un fs ex H H1 h h1) {b : Addr} {ob : Obj} (q : h.get? b = some ob) (n : H b = none) (hx : b ∉ ex) : ∃ sl, h1.get? b = some { ob with slots := sl } := by
  by_cases hb : b ∈ fs
  · exact u.slot b ob q n hb hx
  · exact ⟨ob.slots, u.keep b ob q n hb hx⟩
theorem Un.trans (a : Un fs ex H H1 h h1) (b : Un fs ex H1 H2 h1 h2) : Un fs ex H H2 h h2 where
  keep := fun c ob q n hc hx => b.keep c ob (a.keep c ob q n hc hx) (a.free c ob q n hx) hc hx
  slot := fun c ob q n hc hx => by
    obtain ⟨sl, e1⟩ := a.slot c ob q n hc hx
    obtain ⟨sl', e2⟩ := b.slot c _ e1 (a.free c ob q n hx) hc hx
    exact ⟨sl', e2⟩
  free := fun c ob q n hx => by
    obtain ⟨o', e1⟩ := a.there c ob q hx
    exact b.free c o' e1 (a.free c ob q n hx) hx
  there := fun c ob q hx => by
    obtain ⟨o', e1⟩ := a.there c ob q hx
    exact b.there c o' e1 hx
  tups := fun c xs q => b.tups c xs (a.tups c xs q)
  frzs := fun c ob xs q => b.frzs c ob xs (a.frzs c ob xs q)
  tbls := fun c ps q => by
    obtain ⟨m1, e1⟩ := a.tbls c ps q
    obtain ⟨m2, e2⟩ := b.tbls c _ e1
    exact ⟨m1 ++ m2, by rw [e2, Array.append_assoc]⟩
theorem Un.kept (k : ∀ b u, h.get? b = some u → h'.get? b = some u) : Un fs ex H H h h' :=
  ⟨fun b ob q _ _ _ => k b ob q, fun b ob q _ _ _ => ⟨ob.slots, k b ob q⟩, fun _ _ _ n _ => n, fun b ob q _ => ⟨ob, k b ob q⟩, fun _ _ q => q, fun _ _ _ q => q, fun _ ps q => ⟨#[], by rw [q]; simp⟩⟩
theorem Un.refl : Un fs ex H H h h := Un.kept fun _ _ q => q
theorem Un.laid (k : ∀ b u, h.get? b = some u → h'.get? b = some u) (hp : h.objs.size ≤ a) (hn : H a = none) : Un fs ex H (upd H a o) h h' where
  keep := fun b u q _ _ _ => k b u q
  slot := fun b u q _ _ _ => ⟨u.slots, k b u q⟩
  free := fun b u q n _ => by rw [upd_ne (Nat.ne_of_lt (Nat.lt_of_lt_of_le (Heap.lt_size q) hp))]; exact n
  there := fun b u q _ => ⟨u, k b u q⟩
  tups := fun b xs q => by rw [upd_ne (ne_of_none q hn)]; exact q
  frzs := fun b u xs q => by rw [upd_ne (ne_of_none q hn)]; exact q
  tbls := fun b ps q => ⟨#[], by rw [upd_ne (ne_of_none q hn), q]; simp⟩
theorem Un.write (mu : Mut (H x)) (he : e = x ∨ H e = some (.own x)) (k : ∀ b u, b ≠ e → h.get? b = some u → h'.get? b = some u) (heo : ∃ u, h'.get? e = some u) : Un fs ex H (upd H x o) h h' := by
  have hx : ∀ b, H b = none → b ≠ x := fun b n z => by subst z; rw [n] at mu; exact mu
  have hb : ∀ b, H b = none → b ≠ e := fun b n z => by
    subst z
    rcases he with r | r
    · exact hx b n r
    · rw [n] at r; cases r
  have hm : ∀ b u, H b = some u → ¬ Mut (some u) → b ≠ x := fun b u q nm z => by subst z; rw [q] at mu; exact nm mu
  refine ⟨fun b u q n _ _ => k b u (hb b n) q, fun b u q n _ _ => ⟨u.slots, k b u (hb b n) q⟩, fun b u q n _ => by rw [upd_ne (hx b n)]; exact n, fun b u q _ => ?_,
    fun b xs q => by rw [upd_ne (hm b _ q fun z => z)]; exact q, fun b u xs q => by rw [upd_ne (hm b _ q fun z => z)]; exact q, fun b ps q => ⟨#[], by rw [upd_ne (hm b _ q fun z => z), q]; simp⟩⟩
  by_cases hbe : b = e
  · subst hbe; exact heo
  · exact ⟨u, k b u hbe q⟩
theorem Un.mono (u : Un fs ex H H1 h h1) (hs : ∀ b ∈ fs, b ∈ fs') (hx : ∀ b ∈ ex, b ∈ ex') : Un fs' ex' H H1 h h1 :=
  ⟨fun b ob q n hb he => u.keep b ob q n (fun z => hb (hs b z)) fun z => he (hx b z), fun _ _ q n _ he => u.any q n fun z => he (hx _ z), fun b ob q n he => u.free b ob q n fun z => he (hx b z), fun b ob q he => u.there b ob q fun z => he (hx b z), u.tups, u.frzs, u.tbls⟩
end

/-! ### the heap without what is tracked -/
def trk (h : Heap) (H : Hp) : List Addr := (List.range h.objs.size).filter fun a => (H a).isSome
def hidT (h : Heap) (H : Hp) : Heap := PySem.W.hideAll h (trk h H)
theorem hidT_size (h : Heap) (H : Hp) : (hidT h H).objs.size = h.objs.size := PySem.W.hideAll_size _ _
theorem hidT_get {h : Heap} {H : Hp} {b : Addr} {o : Obj} (e : h.get? b = some o) (n : H b = none) : (hidT h H).get? b = some o :=
  PySem.W.hideAll_get _ e fun hm => by
    have q : (H b).isSome = true := (List.mem_filter.mp hm).2
    rw [n] at q; simp at q
theorem of_hidT {h : Heap} {H : Hp} {b : Addr} {o : Obj} (e : (hidT h H).get? b = some o) : h.get? b = some o ∧ H b = none := by
  have e' : h.get? b = some o := PySem.W.of_hideAll (trk h H) e
  refine ⟨e', ?_⟩
  cases q : H b with
  | none => rfl
  | some x =>
    have hm : b ∈ trk h H := List.mem_filter.mpr ⟨List.mem_range.mpr (Heap.lt_size e'), by simp [q]⟩
    have z : (hidT h H).get? b = none := PySem.W.hideAll_none (trk h H) hm
    rw [z] at e; cases e

/-! ### OpenK's ledger, filled with every new object but one -/
def allNews (g h : Heap) (L : Addr) : List (Addr × Obj) := (List.range h.objs.size).filterMap fun a => if a = L ∨ (g.get? a).isSome = true then none else (h.get? a).map fun o => (a, o)
theorem mem_allNews {g h : Heap} {L a : Addr} {o : Obj} (h1 : a ≠ L) (h2 : g.get? a = none) (h3 : h.get? a = some o) : (a, o) ∈ allNews g h L :=
  List.mem_filterMap.mpr ⟨a, List.mem_range.mpr (Heap.lt_size h3), by simp [h1, h2, h3]⟩
theorem of_mem_allNews {g h : Heap} {L : Addr} {p : Addr × Obj} (hp : p ∈ allNews g h L) : p.1 ≠ L ∧ g.get? p.1 = none ∧ h.get? p.1 = some p.2 := by
  obtain ⟨b, _, e⟩ := List.mem_filterMap.mp hp
  split at e
  · cases e
  · rename_i hn
    cases q : h.get? b with
    | none => rw [q] at e; simp at e
    | some u =>
      rw [q] at e
      simp only [Option.map_some, Option.some.injEq] at e
      subst e
      refine ⟨fun z => hn (.inl z), ?_, q⟩
      show g.get? b = none
      cases r : g.get? b with
      | none => rfl
      | some v => exact (hn (.inr (by simp [r]))).elim
def rest (g h : Heap) (L d : Addr) : List (Addr × Obj) := (allNews g h L).filter fun p => decide (p.1 ≠ d)
theorem rest_ne {g h : Heap} {L d : Addr} : ∀ p ∈ rest g h L d, p.1 ≠ d := fun p hp => of_decide_eq_true (List.mem_filter.mp hp).2
theorem mem_rest {g h : Heap} {L d a : Addr} {o : Obj} (h1 : a ≠ L) (h2 : g.get? a = none) (h3 : h.get? a = some o) (h4 : a ≠ d) : (a, o) ∈ rest g h L d :=
  List.mem_filter.mpr ⟨mem_allNews h1 h2 h3, decide_eq_true h4⟩
theorem news_all {g h : Heap} {L : Addr} : News g L h (allNews g h L) := fun p hp => let ⟨a, b, c⟩ := of_mem_allNews hp; ⟨c, a, b⟩
theorem news_at {g h : Heap} {L d : Addr} {o : Obj} (h1 : d ≠ L) (h2 : g.get? d = none) (h3 : h.get? d = some o) : News g L h ((d, o) :: rest g h L d) := fun p hp => by
  rcases List.mem_cons.mp hp with rfl | hp
  · exact ⟨h3, h1, h2⟩
  · exact news_all p (List.mem_filter.mp hp).1
/-- behind a rule that changed d alone: all else but the frame is kept -/
theorem kept_of_news {g h h' : Heap} {L d : Addr} {m : Str → Option Value} (k : ∀ b o, g.get? b = some o → h.get? b = some o) (F : Fr g L h' m) (N : News g L h' (rest g h L d)) :
    ∀ b o, b ≠ L → b ≠ d → h.get? b = some o → h'.get? b = some o := fun b o h1 h2 e => by
  cases q : g.get? b with
  | some u =>
    have := k b u q
    rw [e] at this; cases this
    exact F.keep b _ q
  | none => exact (N (b, o) (mem_rest h1 q e h2)).1
end L2

namespace L2
open PySem PySem.Spec PyProof.Rows

/-- the module's facts, over the base: the heap at the law's entry without what is tracked there -/
structure Mod (K : PySem.W.Frag) (mg : Str → Option Value) (base : Heap) : Prop where
  kin : K.In base
  glob : base.Ns mainGlobals mg
  blt : ∃ mb, base.Ns builtinsNs mb ∧ ∀ x : Str, x ≠ "__name__" → mb x = bootBuiltins x
  nolimit : base.NoLimit

/-- the context: a def's body (or a comprehension's block) running. base: fixed through the whole law; s₀, H₀: the entry; outer: the frames whose slots others may change (a def's callers); stack: all frames that run;
   ex: iterators that were made ahead of the entry and are walked here (a comprehension's); fn: the names whose cells were made at the entry (a def: all; a comprehension's block: its own); calm: not within an except suite; pn: pins that every state bears; xe: what is wanted of an exception that leaves the code -/
structure Cx where
  prog : Program
  w : World
  K : PySem.W.Frag
  mg : Str → Option Value
  base : Heap
  A : Around
  N : List Str
  s₀ : Shared
  H₀ : Hp
  env : Env
  outer : List Env
  stack : List Env
  ex : List Addr
  fn : Str → Bool
  calm : Bool
  pn : List (Addr × Obj)
  xe : Value → Shared → Prop
/-- the callers' frames -/
def frs (l : List Env) : List Addr := l.filterMap (·.frame)
abbrev Cx.fs (X : Cx) : List Addr := frs X.outer

def Vis (sc : Scope) (x : Str) : Prop := sc.names.lookup x = some .local ∨ sc.names.lookup x = some .cell ∨ sc.names.lookup x = some .free
def Loc (sc : Scope) (x : Str) : Prop := sc.names.lookup x = some .local ∨ sc.names.lookup x = some .cell
def Look (env : Env) (h : Heap) (m : Str → Option Value) (x : Str) (u : Value) : Prop :=
  (env.kindOf x = some .local ∧ m x = some u) ∨ ((env.kindOf x = some .cell ∨ env.kindOf x = some .free) ∧ ∃ c, env.cells.lookup x = some c ∧ h.IsCell c (some u))

structure Cx.Ok (X : Cx) : Prop where
  mod : Mod X.K X.mg X.base
  kind : X.env.scope.kind = .function
  glob : X.env.globals = mainGlobals
  blt : X.env.builtins = builtinsNs
  above : X.s₀.heap.objs.size ≤ X.env.locals
  inj : ∀ x y c, X.env.cells.lookup x = some c → X.env.cells.lookup y = some c → x = y
  has : ∀ x, (X.env.kindOf x = some .cell ∨ X.env.kindOf x = some .free) → ∃ c, X.env.cells.lookup x = some c
  cab : ∀ x c, X.fn x = true → X.env.cells.lookup x = some c → X.s₀.heap.objs.size ≤ c
  hd : X.calm = true → X.A.handled = none
  frames : X.A.frames = some X.stack
  stk : X.stack = X.outer ∨ (X.stack = X.env :: X.outer ∧ X.env.frame = some X.env.locals)
  exf : ∀ b ∈ X.ex, b ≠ X.env.locals ∧ ∀ x c, X.env.cells.lookup x = some c → c ≠ b
  bs : ∀ b o, X.base.get? b = some o → X.s₀.heap.get? b = some o ∧ X.H₀ b = none
  bsz : X.base.objs.size ≤ X.s₀.heap.objs.size
  noex : ∀ b o, X.base.get? b = some o → b ∉ X.ex
  exfs : ∀ b ∈ X.ex, b ∉ X.fs
  funs : X.s₀.heap.FunFrames X.base X.outer
  frf : ∀ b ∈ X.fs, X.H₀ b = none

structure Inv (X : Cx) (pins : List (Addr × Obj)) (σ : List (Option V)) (H : Hp) (s : Shared) : Prop where
  ok : X.Ok
  os : s.os = X.s₀.os
  bare : AllBare s.gens
  base : Un X.fs X.ex X.H₀ H X.s₀.heap s.heap
  loc : ∃ m, s.heap.Ns X.env.locals m ∧ ∀ (i : Nat) (x : Str) (v : V), X.N[i]? = some x → σ[i]? = some (some v) → Vis X.env.scope x → ∃ u, RelV v u ∧ Look X.env s.heap m x u
  cell : ∀ x c, X.env.cells.lookup x = some c → ∃ v, s.heap.IsCell c v
  free : H X.env.locals = none
  freeC : ∀ x c, X.env.cells.lookup x = some c → H c = none
  pin : ∀ p ∈ X.pn ++ pins, s.heap.get? p.1 = some p.2 ∧ H p.1 = none ∧ p.1 ≠ X.env.locals ∧ p.1 ∉ X.fs ∧ ∀ v, p.2.data ≠ .cell v
  hok : HOk X.prog X.w H s.heap
  len : σ.length = X.N.length

section
variable {X : Cx} {pins : List (Addr × Obj)} {σ : List (Option V)} {H H' : Hp} {s : Shared} {h' : Heap}

theorem Cx.Ok.nofr (ok : X.Ok) {b : Addr} {o : Obj} (e : X.base.get? b = some o) : b ∉ X.fs := fun hb => by
  have := (ok.funs.mem hb).1
  rw [e] at this; cases this
theorem Inv.bs (I : Inv X pins σ H s) : ∀ b o, X.base.get? b = some o → s.heap.get? b = some o ∧ H b = none := fun b o e =>
  ⟨I.base.keep b o (I.ok.bs b o e).1 (I.ok.bs b o e).2 (I.ok.nofr e) (I.ok.noex b o e), I.base.free b o (I.ok.bs b o e).1 (I.ok.bs b o e).2 (I.ok.noex b o e)⟩
theorem Inv.bk (I : Inv X pins σ H s) : ∀ b o, X.base.get? b = some o → s.heap.get? b = some o := fun b o e => (I.bs b o e).1
theorem Inv.mod (I : Inv X pins σ H s) : Mod X.K X.mg X.base := I.ok.mod
theorem Inv.kIn (I : Inv X pins σ H s) : X.K.In s.heap := I.ok.mod.kin.keeps I.bk
theorem Inv.nolimit (I : Inv X pins σ H s) : s.heap.NoLimit := I.ok.mod.nolimit.keeps I.bk
/-- the frame over the base: for OpenK's rules (K.In X.base is I.mod.kin) -/
theorem Inv.fr (I : Inv X pins σ H s) : ∃ m, Fr X.base X.env.locals s.heap m :=
  let ⟨m, hn, _⟩ := I.loc
  ⟨m, hn, I.bk, Nat.le_trans I.ok.bsz I.ok.above⟩
theorem Inv.lt (I : Inv X pins σ H s) : X.env.locals < s.heap.objs.size := let ⟨_, hn, _⟩ := I.loc; hn.lt
theorem Inv.sz (I : Inv X pins σ H s) : X.s₀.heap.objs.size ≤ s.heap.objs.size := Nat.le_trans I.ok.above (Nat.le_of_lt I.lt)
theorem Inv.nofs (I : Inv X pins σ H s) {a : Addr} (h : s.heap.objs.size ≤ a) : a ∉ X.fs := fun hb => by
  obtain ⟨_, o, ho, _⟩ := I.ok.funs.mem hb
  exact absurd (Nat.lt_of_lt_of_le (Heap.lt_size ho) (Nat.le_trans I.sz h)) (Nat.lt_irrefl _)
theorem Inv.cne (I : Inv X pins σ H s) : ∀ x c, X.env.cells.lookup x = some c → c ≠ X.env.locals := fun x c e z => by
  obtain ⟨v, o, ho, hd⟩ := I.cell x c e
  obtain ⟨m, ⟨o', es, ep, ho', hd', _⟩, _⟩ := I.loc
  rw [z, ho'] at ho; cases ho; rw [hd'] at hd; cases hd
theorem Inv.funs (I : Inv X pins σ H s) : s.heap.FunFrames X.base X.outer := by
  have all : ∀ (l : List Env), (∀ b ∈ frs l, b ∈ X.fs) → X.s₀.heap.FunFrames X.base l → s.heap.FunFrames X.base l := by
    intro l
    induction l with
    | nil => intro _ _; trivial
    | cons env r ih =>
      intro hs hl
      obtain ⟨hk, ⟨L, o, hf, hn, ho, hd⟩, hr⟩ := hl
      have hL : L ∈ X.fs := hs L (by unfold frs; rw [List.filterMap_cons, hf]; exact List.mem_cons_self)
      obtain ⟨sl, e⟩ := I.base.slot L o ho (I.ok.frf L hL) hL fun z => I.ok.exfs L z hL
      exact ⟨hk, ⟨L, _, hf, hn, e, hd⟩, ih (fun b hb => hs b (by unfold frs; rw [List.filterMap_cons, hf]; exact List.mem_cons_of_mem _ hb)) hr⟩
  exact all X.outer (fun _ hb => hb) I.ok.funs

/-- the frames that run, for a call -/
theorem Inv.stack (I : Inv X pins σ H s) : s.heap.FunFrames X.base X.stack := by
  rcases I.ok.stk with e | ⟨e, hf⟩
  · rw [e]; exact I.funs
  · rw [e]
    obtain ⟨m, hn, _⟩ := I.loc
    refine .cons (by rw [I.ok.kind]; decide) hf hn ?_ I.funs
    exact Heap.get?_none_of_le (Nat.le_trans I.ok.bsz I.ok.above)
theorem Inv.stkSub (I : Inv X pins σ H s) : ∀ b ∈ frs X.stack, b ∈ X.env.locals :: X.fs := fun b hb => by
  rcases I.ok.stk with e | ⟨e, hf⟩
  · rw [e] at hb; exact List.mem_cons_of_mem _ hb
  · rw [e] at hb
    unfold frs at hb
    rw [List.filterMap_cons, hf] at hb
    exact hb
theorem Inv.stkFree (I : Inv X pins σ H s) : ∀ b ∈ frs X.stack, H b = none := fun b hb => by
  rcases List.mem_cons.mp (I.stkSub b hb) with e | hb
  · rw [e]; exact I.free
  · obtain ⟨_, o, ho, _⟩ := I.ok.funs.mem hb
    exact I.base.free b o ho (I.ok.frf b hb) fun z => I.ok.exfs b z hb

/-- THE STEP: the untracked objects but the frame and the records at ch are kept (the callers' frames up to slots), the frame's map is kept, the new abstract heap is held -/
theorem Inv.step {g' : Array GenState} {t' : Nat} {d' : Drawn} {ch : List Addr} (I : Inv X pins σ H s)
    (hch : ∀ b ∈ ch, (b ∈ X.ex ∨ X.s₀.heap.objs.size ≤ b) ∧ b ≠ X.env.locals ∧ (∀ x c, X.env.cells.lookup x = some c → c ≠ b) ∧ ∀ p ∈ X.pn ++ pins, p.1 ≠ b)
    (keep : ∀ b o, b ≠ X.env.locals → b ∉ X.fs → b ∉ ch → s.heap.get? b = some o → H b = none → h'.get? b = some o)
    (slot : ∀ b o, b ≠ X.env.locals → b ∈ X.fs → b ∉ ch → s.heap.get? b = some o → H b = none → ∃ sl, h'.get? b = some { o with slots := sl }) (free : ∀ b o, b ∉ ch → s.heap.get? b = some o → H b = none → H' b = none)
    (there : ∀ b o, b ∉ ch → s.heap.get? b = some o → ∃ o', h'.get? b = some o')
    (tups : ∀ b xs, H b = some (.tup xs) → H' b = some (.tup xs)) (frzs : ∀ b o u, H b = some (.frz o u) → H' b = some (.frz o u)) (tbls : ∀ b ps, H b = some (.tbl ps) → ∃ more, H' b = some (.tbl (ps ++ more)))
    (ns : ∀ m, s.heap.Ns X.env.locals m → h'.Ns X.env.locals m) (hok : HOk X.prog X.w H' h') (hg : AllBare g') :
    Inv X pins σ H' { s with heap := h', gens := g', drawn := d', toks := t' } := by
  have neL : ∀ b o, X.s₀.heap.get? b = some o → b ≠ X.env.locals := fun b o e => Nat.ne_of_lt (Nat.lt_of_lt_of_le (Heap.lt_size e) I.ok.above)
  have neC : ∀ b o, X.s₀.heap.get? b = some o → b ∉ X.ex → b ∉ ch := fun b o e hx hb => by
    rcases (hch b hb).1 with z | z
    · exact hx z
    · exact absurd (Nat.lt_of_lt_of_le (Heap.lt_size e) z) (Nat.lt_irrefl _)
  have cellK : ∀ x c, X.env.cells.lookup x = some c → ∀ v, s.heap.IsCell c v → h'.IsCell c v := fun x c e v ⟨o, ho, hd⟩ => by
    have nch : c ∉ ch := fun z => (hch c z).2.2.1 x c e rfl
    by_cases hc : c ∈ X.fs
    · obtain ⟨sl, q⟩ := slot c o (I.cne x c e) hc nch ho (I.freeC x c e)
      exact ⟨_, q, hd⟩
    · exact ⟨o, keep c o (I.cne x c e) hc nch ho (I.freeC x c e), hd⟩
  refine ⟨I.ok, I.os, hg, ⟨fun b o e n hb hx => ?_, fun b o e n hb hx => ?_, fun b o e n hx => ?_, fun b o e hx => ?_, fun b xs e => tups b xs (I.base.tups b xs e), fun b o xs e => frzs b o xs (I.base.frzs b o xs e), fun b ps e => ?_⟩, ?_, fun x c e => ?_, ?_, fun x c e => ?_, fun p hp => ?_, hok, I.len⟩
  · exact keep b o (neL b o e) hb (neC b o e hx) (I.base.keep b o e n hb hx) (I.base.free b o e n hx)
  · obtain ⟨sl, e1⟩ := I.base.slot b o e n hb hx
    obtain ⟨sl', e2⟩ := slot b _ (neL b o e) hb (neC b o e hx) e1 (I.base.free b o e n hx)
    exact ⟨sl', e2⟩
  · obtain ⟨o', e1⟩ := I.base.there b o e hx
    exact free b o' (neC b o e hx) e1 (I.base.free b o e n hx)
  · obtain ⟨o', e1⟩ := I.base.there b o e hx
    exact there b o' (neC b o e hx) e1
  · obtain ⟨m1, e1⟩ := I.base.tbls b ps e
    obtain ⟨m2, e2⟩ := tbls b _ e1
    exact ⟨m1 ++ m2, by rw [e2, Array.append_assoc]⟩
  · obtain ⟨m, hn, hl⟩ := I.loc
    refine ⟨m, ns m hn, fun i x v e1 e2 e3 => ?_⟩
    obtain ⟨u, r, l⟩ := hl i x v e1 e2 e3
    refine ⟨u, r, ?_⟩
    rcases l with l | ⟨k, c, e, z⟩
    · exact .inl l
    · exact .inr ⟨k, c, e, cellK x c e _ z⟩
  · obtain ⟨v, z⟩ := I.cell x c e
    exact ⟨v, cellK x c e v z⟩
  · obtain ⟨m, ⟨o, _, _, ho, _⟩, _⟩ := I.loc
    exact free _ o (fun z => (hch _ z).2.1 rfl) ho I.free
  · obtain ⟨v, o, ho, hd⟩ := I.cell x c e
    exact free c o (fun z => (hch c z).2.2.1 x c e rfl) ho (I.freeC x c e)
  · obtain ⟨e, n, ne, nf, d⟩ := I.pin p hp
    have nch : p.1 ∉ ch := fun z => (hch p.1 z).2.2.2 p hp rfl
    exact ⟨keep p.1 p.2 ne nf nch e n, free p.1 p.2 nch e n, ne, nf, d⟩
/-- .. where the frame's own object is kept too -/
theorem Inv.un {t' : Nat} (I : Inv X pins σ H s) (u : Un X.fs [] H H' s.heap h') (hok : HOk X.prog X.w H' h') : Inv X pins σ H' { s with heap := h', toks := t' } := by
  obtain ⟨m, ⟨o, es, ep, ho, r⟩, _⟩ := id I.loc
  obtain ⟨sl, hL⟩ := u.any ho I.free (by simp)
  exact I.step (g' := s.gens) (d' := s.drawn) (ch := []) (fun _ z => nomatch z) (fun b o _ hb _ e n => u.keep b o e n hb (by simp)) (fun b o _ hb _ e n => u.slot b o e n hb (by simp)) (fun b o _ e n => u.free b o e n (by simp)) (fun b o _ e => u.there b o e (by simp)) u.tups u.frzs u.tbls (fun m' hm => by
    obtain ⟨o', es', ep', ho', r'⟩ := hm
    rw [ho] at ho'; cases ho'
    exact ⟨_, es', ep', hL, r'⟩) hok I.bare
/-- behind a call (or a comprehension's block): the slots of this frame may have changed too, the records at ch may have turned -/
theorem Inv.call {g' : Array GenState} {t' : Nat} {d' : Drawn} {ch : List Addr} (I : Inv X pins σ H s) (u : Un (frs X.stack) ch H H' s.heap h') (hok : HOk X.prog X.w H' h') (hg : AllBare g')
    (hch : ∀ b ∈ ch, (b ∈ X.ex ∨ X.s₀.heap.objs.size ≤ b) ∧ b ≠ X.env.locals ∧ (∀ x c, X.env.cells.lookup x = some c → c ≠ b) ∧ ∀ p ∈ X.pn ++ pins, p.1 ≠ b) :
    Inv X pins σ H' { s with heap := h', gens := g', drawn := d', toks := t' } := by
  obtain ⟨m, ⟨o, es, ep, ho, r⟩, _⟩ := id I.loc
  obtain ⟨sl, hL⟩ := u.any ho I.free fun z => (hch _ z).2.1 rfl
  exact I.step (ch := ch) hch (fun b o hL hb hc e n => u.keep b o e n (fun z => (List.mem_cons.mp (I.stkSub b z)).elim hL hb) hc) (fun b o _ _ hc e n => u.any e n hc) (fun b o hc e n => u.free b o e n hc) (fun b o hc e => u.there b o e hc) u.tups u.frzs u.tbls (fun m' hm => by
    obtain ⟨o', es', ep', ho', r'⟩ := hm
    rw [ho] at ho'; cases ho'
    exact ⟨_, es', ep', hL, r'⟩) hok hg
/-- an untracked record of ours (an iterator) has turned -/
theorem Inv.turned {t' : Nat} {it : Addr} (I : Inv X pins σ H s) (k : ∀ b o, b ≠ it → s.heap.get? b = some o → h'.get? b = some o) (hn : H it = none) (hL : it ≠ X.env.locals)
    (h1 : it ∈ X.ex ∨ X.s₀.heap.objs.size ≤ it) (h2 : ∀ x c, X.env.cells.lookup x = some c → c ≠ it) (h3 : ∀ p ∈ X.pn ++ pins, p.1 ≠ it) : Inv X pins σ H { s with heap := h', toks := t' } := by
  have nit : ∀ b u, H b = some u → b ≠ it := fun b u e z => by rw [z, hn] at e; cases e
  refine I.step (g' := s.gens) (d' := s.drawn) (ch := [it]) (fun b hb => ?_) (fun b o _ _ hc e _ => k b o (fun z => hc (by simp [z])) e) (fun b o _ _ hc e _ => ⟨o.slots, k b o (fun z => hc (by simp [z])) e⟩) (fun _ _ _ _ n => n)
    (fun b o hc e => ⟨o, k b o (fun z => hc (by simp [z])) e⟩) (fun _ _ e => e) (fun _ _ _ e => e) (fun b ps e => ⟨#[], by rw [e]; simp⟩) (fun m hm => ?_) (fun b u e => ?_) I.bare
  · have e : b = it := by simpa using hb
    subst e
    exact ⟨h1, hL, h2, h3⟩
  · obtain ⟨o, es, ep, ho, r⟩ := hm
    exact ⟨o, es, ep, k _ o (Ne.symm hL) ho, r⟩
  · refine (I.hok b u e).stay (fun c v hc q => k c v ?_ q) (fun _ q => q) fun _ _ q => q
    rcases hc with z | z
    · rw [z]; exact nit b u e
    · exact nit c _ z
theorem Inv.tok (I : Inv X pins σ H s) (t : Nat) : Inv X pins σ H { s with toks := t } := I.un (h' := s.heap) (t' := t) Un.refl I.hok
/-- all objects kept -/
theorem Inv.kept {t' : Nat} (I : Inv X pins σ H s) (k : ∀ b u, s.heap.get? b = some u → h'.get? b = some u) : Inv X pins σ H { s with heap := h', toks := t' } := I.un (Un.kept k) (I.hok.kept k)
/-- a new object laid and tracked -/
theorem Inv.laid {a : Addr} {o : HO} {t' : Nat} (I : Inv X pins σ H s) (k : ∀ b u, s.heap.get? b = some u → h'.get? b = some u) (hp : s.heap.objs.size ≤ a) (new : ObjOk X.prog X.w (upd H a o) h' a o) :
    Inv X pins σ (upd H a o) { s with heap := h', toks := t' } := I.un (Un.laid k hp (I.hok.fresh hp)) (I.hok.laid k hp new)
/-- an object written -/
theorem Inv.write {x e : Addr} {o : HO} {t' : Nat} (I : Inv X pins σ H s) (mu : Mut (H x)) (he : e = x ∨ H e = some (.own x)) (k : ∀ b u, b ≠ e → s.heap.get? b = some u → h'.get? b = some u) (heo : ∃ u, h'.get? e = some u)
    (new : ObjOk X.prog X.w (upd H x o) h' x o) : Inv X pins σ (upd H x o) { s with heap := h', toks := t' } := I.un (Un.write mu he k heo) (I.hok.write mu he k heo new)
/-- forgetting slots, pins -/
theorem Inv.weak {σ' : List (Option V)} (I : Inv X pins σ H s) (hl : σ'.length = σ.length) (w : ∀ (i : Nat) v, σ'[i]? = some (some v) → σ[i]? = some (some v)) : Inv X pins σ' H s :=
  ⟨I.ok, I.os, I.bare, I.base, let ⟨m, hn, hl'⟩ := I.loc; ⟨m, hn, fun i x v e1 e2 e3 => hl' i x v e1 (w i v e2) e3⟩, I.cell, I.free, I.freeC, I.pin, I.hok, hl.trans I.len⟩
theorem Inv.pins_of {pins' : List (Addr × Obj)} (I : Inv X pins σ H s) (h : ∀ p ∈ pins', s.heap.get? p.1 = some p.2 ∧ H p.1 = none ∧ p.1 ≠ X.env.locals ∧ p.1 ∉ X.fs ∧ ∀ v, p.2.data ≠ .cell v) : Inv X pins' σ H s :=
  ⟨I.ok, I.os, I.bare, I.base, I.loc, I.cell, I.free, I.freeC, fun p hp => (List.mem_append.mp hp).elim (fun z => I.pin p (List.mem_append_left _ z)) (h p), I.hok, I.len⟩

theorem nodup_ix {N : List Str} (hN : N.Nodup) {i j : Nat} {x : Str} (a : N[i]? = some x) (b : N[j]? = some x) : i = j := by
  obtain ⟨h1, e1⟩ := List.getElem?_eq_some_iff.mp a
  obtain ⟨h2, e2⟩ := List.getElem?_eq_some_iff.mp b
  exact (List.getElem_inj hN).mp (e1.trans e2.symm)

/-- a name is stored; what changed -/
theorem store_ok2 {M : Model} {A : Around} {E : Value → Shared → Prop} {i : Nat} {x : Str} {v : V} {u : Value} {Q : Unit → Shared → Prop} (I : Inv X pins σ H s) (hN : X.N.Nodup) (hi : X.N[i]? = some x) (hx : Loc X.env.scope x) (r : RelV v u)
    (h : ∀ s', Inv X pins (σ.set i (some v)) H s' → (∃ a, Heap.SameBut a s.heap s'.heap ∧ (a = X.env.locals ∨ X.env.cells.lookup x = some a)) → Q () s') (hf : X.fn x = true ∨ X.env.scope.names.lookup x = some .local := by first | exact .inl rfl | exact .inr rfl | assumption) : wpAny M A (storeName X.env x u) Q E s := by
  obtain ⟨m, hn, hl⟩ := id I.loc
  have hcls : (X.env.scope.kind == .class || (X.env.scope.kind == .module && X.env.locals != X.env.globals)) = false := by rw [I.ok.kind]; rfl
  have hiσ : i < σ.length := by rw [I.len]; exact (List.getElem?_eq_some_iff.mp hi).1
  have cne := I.cne
  have tracked : ∀ {a : Addr} {h' : Heap}, (∃ o, s.heap.get? a = some o ∧ H a = none) → Heap.SameBut a s.heap h' → HOk X.prog X.w H h' := fun {a h'} ha hs b ob e => by
    obtain ⟨_, _, hfree⟩ := ha
    refine (I.hok b ob e).stay (fun c w' hc q => (hs.2 c ?_).trans q) (fun _ q => q) fun _ _ q => q
    rintro rfl
    rcases hc with rfl | hc
    · rw [hfree] at e; cases e
    · rw [hfree] at hc; cases hc
  rcases hx with hk | hk
  · refine wpAny_storeName_local hk hn (fun h' hn' hs => ?_) hcls
    obtain ⟨oL, _, _, hoL, _⟩ := id hn
    refine h _ ⟨I.ok, I.os, I.bare, ⟨fun b o e n hb hx => ?_, fun b o e n hb hx => ?_, I.base.free, fun b o e hx => ?_, I.base.tups, I.base.frzs, I.base.tbls⟩, ⟨_, hn', fun j y v' e1 e2 e3 => ?_⟩, fun y c e => ?_, I.free, I.freeC, fun p hp => ?_, tracked ⟨oL, hoL, I.free⟩ hs, by simpa using I.len⟩ ⟨_, hs, .inl rfl⟩
    · exact (hs.2 b (Nat.ne_of_lt (Nat.lt_of_lt_of_le (Heap.lt_size e) I.ok.above))).trans (I.base.keep b o e n hb hx)
    · obtain ⟨sl, e1⟩ := I.base.slot b o e n hb hx
      exact ⟨sl, (hs.2 b (Nat.ne_of_lt (Nat.lt_of_lt_of_le (Heap.lt_size e) I.ok.above))).trans e1⟩
    · obtain ⟨o', e1⟩ := I.base.there b o e hx
      exact ⟨o', (hs.2 b (Nat.ne_of_lt (Nat.lt_of_lt_of_le (Heap.lt_size e) I.ok.above))).trans e1⟩
    · by_cases hj : j = i
      · subst hj
        rw [hi] at e1; cases e1
        rw [List.getElem?_set_self hiσ] at e2
        cases e2
        exact ⟨u, r, .inl ⟨hk, by simp⟩⟩
      · rw [List.getElem?_set_ne (Ne.symm hj)] at e2
        obtain ⟨u', r', q⟩ := hl j y v' e1 e2 e3
        refine ⟨u', r', ?_⟩
        rcases q with ⟨k, e⟩ | ⟨k, c, e, z⟩
        · refine .inl ⟨k, ?_⟩
          have : y ≠ x := fun e => hj (nodup_ix hN e1 (e ▸ hi))
          simp [this, e]
        · exact .inr ⟨k, c, e, z.sameBut hs (cne y c e)⟩
    · obtain ⟨w', z⟩ := I.cell y c e
      exact ⟨w', z.sameBut hs (cne y c e)⟩
    · obtain ⟨e, n, ne, nf, d⟩ := I.pin p hp
      exact ⟨(hs.2 p.1 ne).trans e, n, ne, nf, d⟩
  · have hfn : X.fn x = true := by
      rcases hf with z | z
      · exact z
      · rw [z] at hk; cases hk
    obtain ⟨c, hc⟩ := I.ok.has x (.inl hk)
    obtain ⟨w', z⟩ := I.cell x c hc
    refine wpAny_storeName_cell I.ok.kind hk hc z (fun h' hc' hs => ?_)
    obtain ⟨oc, hoc, hocd⟩ := id z
    refine h { s with heap := h' } ⟨I.ok, I.os, I.bare, ⟨fun b o e n hb hx => ?_, fun b o e n hb hx => ?_, I.base.free, fun b o e hx => ?_, I.base.tups, I.base.frzs, I.base.tbls⟩, ⟨m, hn.sameBut hs (Ne.symm (cne x c hc)), fun j y v' e1 e2 e3 => ?_⟩, fun y c' e => ?_, I.free, I.freeC, fun p hp => ?_, tracked ⟨oc, hoc, I.freeC x c hc⟩ hs, by simpa using I.len⟩ ⟨c, hs, .inr hc⟩
    · exact (hs.2 b (Nat.ne_of_lt (Nat.lt_of_lt_of_le (Heap.lt_size e) (I.ok.cab x c hfn hc)))).trans (I.base.keep b o e n hb hx)
    · obtain ⟨sl, e1⟩ := I.base.slot b o e n hb hx
      exact ⟨sl, (hs.2 b (Nat.ne_of_lt (Nat.lt_of_lt_of_le (Heap.lt_size e) (I.ok.cab x c hfn hc)))).trans e1⟩
    · obtain ⟨o', e1⟩ := I.base.there b o e hx
      exact ⟨o', (hs.2 b (Nat.ne_of_lt (Nat.lt_of_lt_of_le (Heap.lt_size e) (I.ok.cab x c hfn hc)))).trans e1⟩
    · by_cases hj : j = i
      · subst hj
        rw [hi] at e1; cases e1
        rw [List.getElem?_set_self hiσ] at e2
        cases e2
        exact ⟨u, r, .inr ⟨.inl hk, c, hc, hc'⟩⟩
      · rw [List.getElem?_set_ne (Ne.symm hj)] at e2
        obtain ⟨u', r', q⟩ := hl j y v' e1 e2 e3
        refine ⟨u', r', ?_⟩
        rcases q with q | ⟨k, c', e, z'⟩
        · exact .inl q
        · refine .inr ⟨k, c', e, z'.sameBut hs ?_⟩
          rintro rfl
          exact hj (nodup_ix hN e1 (I.ok.inj _ _ _ e hc ▸ hi))
    · by_cases hcc : c' = c
      · subst hcc; exact ⟨_, hc'⟩
      · obtain ⟨w2, z2⟩ := I.cell y c' e
        exact ⟨w2, z2.sameBut hs hcc⟩
    · obtain ⟨e, n, ne, nf, d⟩ := I.pin p hp
      refine ⟨(hs.2 p.1 ?_).trans e, n, ne, nf, d⟩
      intro q
      rw [q, hoc] at e
      have q' : oc = p.2 := Option.some.inj e
      exact d w' (by rw [← q']; exact hocd)
theorem store_ok {M : Model} {A : Around} {E : Value → Shared → Prop} {i : Nat} {x : Str} {v : V} {u : Value} {Q : Unit → Shared → Prop} (I : Inv X pins σ H s) (hN : X.N.Nodup) (hi : X.N[i]? = some x) (hx : Loc X.env.scope x) (r : RelV v u)
    (h : ∀ s', Inv X pins (σ.set i (some v)) H s' → Q () s') (hf : X.fn x = true ∨ X.env.scope.names.lookup x = some .local := by first | exact .inl rfl | exact .inr rfl | assumption) : wpAny M A (storeName X.env x u) Q E s :=
  store_ok2 I hN hi hx r (fun s' I' _ => h s' I') hf
/-- behind a call or a block, the state as it is -/
theorem Inv.call' {s' : Shared} {ch : List Addr} (I : Inv X pins σ H s) (ho : s'.os = s.os) (u : Un (frs X.stack) ch H H' s.heap s'.heap) (hok : HOk X.prog X.w H' s'.heap) (hg : AllBare s'.gens)
    (hch : ∀ b ∈ ch, (b ∈ X.ex ∨ X.s₀.heap.objs.size ≤ b) ∧ b ≠ X.env.locals ∧ (∀ x c, X.env.cells.lookup x = some c → c ≠ b) ∧ ∀ p ∈ X.pn ++ pins, p.1 ≠ b) : Inv X pins σ H' s' := by
  obtain ⟨h', g', d', t', o'⟩ := s'
  have e : o' = s.os := ho
  subst e
  exact I.call (g' := g') (t' := t') (d' := d') u hok hg hch
end

/-! ### the judgements -/
/-- an exception: its class, its own dict's address (where it has one), the abstract heap behind it -/
abbrev XK := Value → Option Addr → Hp → Prop
abbrev St := List (Option V)
abbrev VK := V → Hp → Prop
/-- an expression's reading; a test's; an argument list's -/
abbrev TE := St → Hp → VK → Prop
abbrev TT := St → Hp → (Bool → Hp → Prop) → Prop
abbrev TA := St → Hp → (List V → Hp → Prop) → Prop
/-- what is wanted behind a statement -/
structure Ends where
  nx : St → Hp → Prop
  rt : VK
  bk : St → Hp → Prop := fun _ _ => False
  ct : St → Hp → Prop := fun _ _ => False
abbrev TS := Ends → St → Hp → Prop

def EP (X : Cx) (pins : List (Addr × Obj)) (σ : St) (Q : VK) (u : Value) (s' : Shared) : Prop := ∃ v H', Inv X pins σ H' s' ∧ RelV v u ∧ Q v H'
def TP (X : Cx) (pins : List (Addr × Obj)) (σ : St) (Q : Bool → Hp → Prop) (b : Bool) (s' : Shared) : Prop := ∃ H', Inv X pins σ H' s' ∧ Q b H'
def AP (X : Cx) (pins : List (Addr × Obj)) (σ : St) (Q : List V → Hp → Prop) (us : List Value) (s' : Shared) : Prop := ∃ vs H', Inv X pins σ H' s' ∧ Vals vs us ∧ Q vs H'
def SP (X : Cx) (pins : List (Addr × Obj)) (D : Ends) (f : Flow) (s' : Shared) : Prop :=
  match f with
  | .next => ∃ σ' H', Inv X pins σ' H' s' ∧ D.nx σ' H'
  | .brk => ∃ σ' H', Inv X pins σ' H' s' ∧ D.bk σ' H'
  | .cont => ∃ σ' H', Inv X pins σ' H' s' ∧ D.ct σ' H'
  | .ret u => ∃ v σ' H', Inv X pins σ' H' s' ∧ RelV v u ∧ D.rt v H'

def PE (X : Cx) (e : Expr) (t : TE) : Prop :=
  ∀ (pins : List (Addr × Obj)) (s : Shared) (σ : St) (H : Hp) (Q : VK), Inv X pins σ H s → t σ H Q → wpAny (model X.prog X.w) X.A (eval e X.env) (EP X pins σ Q) X.xe s
def PT (X : Cx) (e : Expr) (t : TT) : Prop :=
  ∀ (pins : List (Addr × Obj)) (s : Shared) (σ : St) (H : Hp) (Q : Bool → Hp → Prop), Inv X pins σ H s → t σ H Q → wpAny (model X.prog X.w) X.A (isTrue e X.env (eval e X.env)) (TP X pins σ Q) X.xe s
/-- a test whatever its 'whole' is (and, or) -/
def PW (X : Cx) (e : Expr) (t : TT) : Prop :=
  ∀ (whole : Sem Value) (pins : List (Addr × Obj)) (s : Shared) (σ : St) (H : Hp) (Q : Bool → Hp → Prop), Inv X pins σ H s → t σ H Q → wpAny (model X.prog X.w) X.A (isTrue e X.env whole) (TP X pins σ Q) X.xe s
theorem PW.pt {X : Cx} {e : Expr} {t : TT} (h : PW X e t) : PT X e t := h _
/-- an argument list (no star), from the left -/
def PA (X : Cx) (es : List Expr) (t : TA) : Prop :=
  ∀ (pos : Pos) (pins : List (Addr × Obj)) (s : Shared) (σ : St) (H : Hp) (Q : List V → Hp → Prop), Inv X pins σ H s → t σ H Q → wpAny (model X.prog X.w) X.A (spliced (backTo pos (starEach es X.env))) (AP X pins σ Q) X.xe s
def PS (X : Cx) (st : Stmt) (t : TS) : Prop :=
  ∀ (pins : List (Addr × Obj)) (s : Shared) (σ : St) (H : Hp) (D : Ends), Inv X pins σ H s → t D σ H → wpAny (model X.prog X.w) X.A (exec st X.env) (SP X pins D) X.xe s
def PSs (X : Cx) (st : List Stmt) (t : TS) : Prop :=
  ∀ (pins : List (Addr × Obj)) (s : Shared) (σ : St) (H : Hp) (D : Ends), Inv X pins σ H s → t D σ H → wpAny (model X.prog X.w) X.A (execs st X.env) (SP X pins D) X.xe s
/-- weaken the end -/
theorem thn {α : Type} {t : Sem α} {Q Q' : α → Shared → Prop} {M : Model} {A : Around} {E : Value → Shared → Prop} {s : Shared} (h : wpAny M A t Q E s) (hQ : ∀ a s, Q a s → Q' a s) : wpAny M A t Q' E s := wpAny_mono h hQ fun _ _ x => x
end L2

namespace L2
open PySem PySem.Spec PyProof.Rows
section
variable {X : Cx}

/-- two expressions in a row -/
theorem bin {a b : Expr} {ta tb : TE} (ha : PE X a ta) (hb : PE X b tb) {pins : List (Addr × Obj)} {s : Shared} {σ : St} {H : Hp} {R : V → V → Hp → Prop} (I : Inv X pins σ H s) (h : ta σ H fun x H1 => tb σ H1 fun y H2 => R x y H2)
    {α : Type} {Q : α → Shared → Prop} {f : Value → Value → Sem α}
    (hf : ∀ v u s2 x y H2, Inv X pins σ H2 s2 → RelV x v → RelV y u → R x y H2 → wpAny (model X.prog X.w) X.A (f v u) Q X.xe s2) :
    wpAny (model X.prog X.w) X.A (eval a X.env) (fun v s₁ => wpAny (model X.prog X.w) X.A (eval b X.env) (fun u s₂ => wpAny (model X.prog X.w) X.A (f v u) Q X.xe s₂) X.xe s₁) X.xe s := by
  refine thn (ha pins s σ H _ I h) fun v s1 ⟨x, H1, I1, r1, q1⟩ => ?_
  refine thn (hb pins s1 σ H1 _ I1 q1) fun u s2 ⟨y, H2, I2, r2, q2⟩ => ?_
  exact hf v u s2 x y H2 I2 r1 r2 q2

/-! ### names and constants -/
def tVar (i : Nat) : TE := fun σ H Q => ∃ v, σ[i]? = some (some v) ∧ Q v H
def tC (v : V) : TE := fun _ H Q => Q v H
theorem pe_var {i : Nat} {x : Str} {pos : Pos} (hN : X.N[i]? = some x) (hv : Vis X.env.scope x) (hd : (x == ("__debug__" : Str)) = false := by decide) (hcd : (x == ("__classdict__" : Str)) = false := by decide) : PE X (.Name x pos) (tVar i) := by
  intro pins s σ H Q I h
  obtain ⟨v, e, h⟩ := h
  obtain ⟨m, hn, hl⟩ := I.loc
  obtain ⟨u, r, l⟩ := hl i x v hN e hv
  have fin : EP X pins σ Q u s := ⟨v, H, I, r, h⟩
  rcases l with ⟨hk, hm⟩ | ⟨hk, c, hc, hcell⟩
  · exact wpAny_Name (wpAny_loadName_local I.ok.kind hk hn hm fin) hd
  · rcases hk with hk | hk
    · exact wpAny_Name (wpAny_loadName_cell I.ok.kind hk hc hcell fin) hd
    · exact wpAny_Name (wpAny_loadName_free I.ok.kind hk hc hcell fin hcd) hd
theorem pe_int {i j pos} : PE X (.Constant (.int i) j pos) (tC (.int i)) := fun _ _ _ H _ I h => wpAny_Constant_int ⟨.int i, H, I.tok _, ⟨_, rfl⟩, h⟩
theorem pe_bl {b j pos} : PE X (.Constant (.bool b) j pos) (tC (.bl b)) := fun _ _ _ H _ I h => Constant_bool ⟨.bl b, H, I, rfl, h⟩
theorem pe_non {j pos} : PE X (.Constant .none j pos) (tC .non) := fun _ _ _ H _ I h => Constant_none ⟨.non, H, I, rfl, h⟩
theorem pe_str {x j pos} : PE X (.Constant (.str x) j pos) (tC (.str x)) := fun _ _ _ H _ I h => Calls.Constant_str ⟨.str x, H, I.tok _, ⟨_, rfl⟩, h⟩

/-- a global name of the def -/
def Gl (X : Cx) (x : Str) : Prop := X.env.kindOf x = some .globalImplicit
theorem ld_glob {E : Value → Shared → Prop} {pins : List (Addr × Obj)} {s : Shared} {σ : St} {H : Hp} {x : Str} {u : Value} {pos : Pos} {Q : Value → Shared → Prop} (I : Inv X pins σ H s) (hg : Gl X x) (hm : X.mg x = some u) (h : Q u s)
    (hd : (x == ("__debug__" : Str)) = false := by decide) : wpAny (model X.prog X.w) X.A (eval (.Name x pos) X.env) Q E s :=
  Calls.Name_function_global I.ok.kind hg (Calls.loadGlobal_global (by rw [I.ok.glob]; exact I.mod.glob.keeps I.bk) hm h) hd
theorem ld_blt {E : Value → Shared → Prop} {pins : List (Addr × Obj)} {s : Shared} {σ : St} {H : Hp} {x : Str} {u : Value} {pos : Pos} {Q : Value → Shared → Prop} (I : Inv X pins σ H s) (hg : Gl X x) (hm : X.mg x = none) (hv : bootBuiltins x = some u) (h : Q u s)
    (hn : x ≠ "__name__" := by decide) (hd : (x == ("__debug__" : Str)) = false := by decide) : wpAny (model X.prog X.w) X.A (eval (.Name x pos) X.env) Q E s := by
  obtain ⟨mb, h1, h2⟩ := I.mod.blt
  exact Calls.Name_function_global I.ok.kind hg (Calls.loadGlobal_builtin (by rw [I.ok.glob]; exact I.mod.glob.keeps I.bk) hm (by rw [I.ok.blt]; exact h1.keeps I.bk) ((h2 x hn).trans hv) h) hd
/-- a module's constant, a class, a function, as a value -/
theorem pe_glob {x : Str} {v : V} {u : Value} {pos : Pos} (hg : Gl X x) (hm : X.mg x = some u) (r : RelV v u) (hd : (x == ("__debug__" : Str)) = false := by decide) : PE X (.Name x pos) (tC v) :=
  fun _ _ _ H _ I h => ld_glob I hg hm ⟨v, H, I, r, h⟩ hd
theorem pe_bltn {x : Str} {v : V} {u : Value} {pos : Pos} (hg : Gl X x) (hm : X.mg x = none) (hv : bootBuiltins x = some u) (r : RelV v u) (hn : x ≠ "__name__" := by decide) (hd : (x == ("__debug__" : Str)) = false := by decide) : PE X (.Name x pos) (tC v) :=
  fun _ _ _ H _ I h => ld_blt I hg hm hv ⟨v, H, I, r, h⟩ hn hd

/-! ### arithmetic -/
/-- two ints -/
def t2I (ta tb : TE) (k : Int → Int → Hp → Prop) : St → Hp → Prop := fun σ H => ta σ H fun x H1 => tb σ H1 fun y H2 => ∃ i j, x = .int i ∧ y = .int j ∧ k i j H2
def tAdd (ta tb : TE) : TE := fun σ H Q => t2I ta tb (fun i j H2 => Q (.int (i + j)) H2) σ H
def tSub (ta tb : TE) : TE := fun σ H Q => t2I ta tb (fun i j H2 => Q (.int (i - j)) H2) σ H
/-- the left factor below 2^64 -/
def tMul (ta tb : TE) : TE := fun σ H Q => t2I ta tb (fun i j H2 => (-(2 ^ 64) < i ∧ i < 2 ^ 64) ∧ Q (.int (i * j)) H2) σ H
variable {a b : Expr} {ta tb : TE} {pos : Pos}
theorem pe_add (ha : PE X a ta) (hb : PE X b tb) : PE X (.BinOp a .Add b pos) (tAdd ta tb) := by
  intro pins s σ H Q I h
  refine wpAny_BinOp (bin ha hb I h fun v u s2 x y H2 I2 rx ry q => ?_)
  obtain ⟨i, j, rfl, rfl, q⟩ := q
  obtain ⟨t, rfl⟩ := rx
  obtain ⟨t', rfl⟩ := ry
  exact add_int ⟨.int _, H2, I2.tok _, ⟨_, rfl⟩, q⟩
theorem pe_sub (ha : PE X a ta) (hb : PE X b tb) : PE X (.BinOp a .Sub b pos) (tSub ta tb) := by
  intro pins s σ H Q I h
  refine wpAny_BinOp (bin ha hb I h fun v u s2 x y H2 I2 rx ry q => ?_)
  obtain ⟨i, j, rfl, rfl, q⟩ := q
  obtain ⟨t, rfl⟩ := rx
  obtain ⟨t', rfl⟩ := ry
  exact sub_int ⟨.int _, H2, I2.tok _, ⟨_, rfl⟩, q⟩
theorem pe_mul (ha : PE X a ta) (hb : PE X b tb) : PE X (.BinOp a .Mult b pos) (tMul ta tb) := by
  intro pins s σ H Q I h
  refine wpAny_BinOp (bin ha hb I h fun v u s2 x y H2 I2 rx ry q => ?_)
  obtain ⟨i, j, rfl, rfl, ⟨q1, q2⟩, q⟩ := q
  obtain ⟨t, rfl⟩ := rx
  obtain ⟨t', rfl⟩ := ry
  exact mul_int ⟨.int _, H2, I2.tok _, ⟨_, rfl⟩, q⟩ (.of_left (intBits_le_64 q1 q2))

/-! ### comparisons -/
def PC (X : Cx) (op : CmpOp) (a b : Expr) (t : TE) : Prop :=
  ∀ (pins : List (Addr × Obj)) (s : Shared) (σ : St) (H : Hp) (Q : VK), Inv X pins σ H s → t σ H Q →
    wpAny (model X.prog X.w) X.A (eval a X.env) (fun v s₁ => wpAny (model X.prog X.w) X.A (eval b X.env) (fun u s₂ => wpAny (model X.prog X.w) X.A (compareOp op v u) (EP X pins σ Q) X.xe s₂) X.xe s₁) X.xe s
theorem nobehind (b : Expr) {op : CmpOp} (h : op ≠ .In) (h2 : op ≠ .NotIn) : behindInMarks op b = false := by
  have e1 : (op == CmpOp.In) = false := by cases op <;> first | rfl | exact absurd rfl h
  have e2 : (op == CmpOp.NotIn) = false := by cases op <;> first | rfl | exact absurd rfl h2
  cases b <;> simp [behindInMarks, e1, e2]
def tCmp (p : Int → Int → Bool) (ta tb : TE) : TE := fun σ H Q => t2I ta tb (fun i j H2 => Q (.bl (p i j)) H2) σ H
abbrev tLt : TE → TE → TE := tCmp fun i j => decide (i < j)
abbrev tLe : TE → TE → TE := tCmp fun i j => decide (i ≤ j)
abbrev tGt : TE → TE → TE := tCmp fun i j => decide (j < i)
abbrev tGe : TE → TE → TE := tCmp fun i j => decide (j ≤ i)
abbrev tEqI : TE → TE → TE := tCmp fun i j => decide (i = j)
abbrev tNeI : TE → TE → TE := tCmp fun i j => !decide (i = j)
/-- a comparison of two ints, by its rule -/
theorem pc_int {op : CmpOp} {p : Int → Int → Bool} (ha : PE X a ta) (hb : PE X b tb)
    (rule : ∀ (i j : Int) (t u : Tok) (Q : Value → Shared → Prop) (s : Shared), Q (.bool (p i j)) s → wpAny (model X.prog X.w) X.A (compareOp op (.int i t) (.int j u)) Q X.xe s) : PC X op a b (tCmp p ta tb) := by
  intro pins s σ H Q I h
  refine bin ha hb I h fun v u s2 x y H2 I2 rx ry q => ?_
  obtain ⟨i, j, rfl, rfl, q⟩ := q
  obtain ⟨t, rfl⟩ := rx
  obtain ⟨t', rfl⟩ := ry
  exact rule i j t t' _ s2 ⟨.bl _, H2, I2, rfl, q⟩
theorem pc_lt (ha : PE X a ta) (hb : PE X b tb) : PC X .Lt a b (tLt ta tb) := pc_int ha hb fun _ _ _ _ _ _ h => lt_int h
theorem pc_le (ha : PE X a ta) (hb : PE X b tb) : PC X .LtE a b (tLe ta tb) := pc_int ha hb fun _ _ _ _ _ _ h => le_int h
theorem pc_gt (ha : PE X a ta) (hb : PE X b tb) : PC X .Gt a b (tGt ta tb) := pc_int ha hb fun _ _ _ _ _ _ h => gt_int h
theorem pc_ge (ha : PE X a ta) (hb : PE X b tb) : PC X .GtE a b (tGe ta tb) := pc_int ha hb fun _ _ _ _ _ _ h => ge_int h
theorem pc_eqI (ha : PE X a ta) (hb : PE X b tb) : PC X .Eq a b (tEqI ta tb) := pc_int ha hb fun _ _ _ _ _ _ h => eq_int (by rw [Bool.beq_eq_decide_eq]; exact h)
theorem pc_neI (ha : PE X a ta) (hb : PE X b tb) : PC X .NotEq a b (tNeI ta tb) := pc_int ha hb fun _ _ _ _ _ _ h => ne_int (by rw [bne, Bool.beq_eq_decide_eq]; exact h)
/-- is None -/
def tIsN (ta : TE) : TE := fun σ H Q => ta σ H fun x H1 => Q (.bl (decide (x = .non))) H1
def tNotN (ta : TE) : TE := fun σ H Q => ta σ H fun x H1 => Q (.bl (!decide (x = .non))) H1
theorem RelV.none_iff {x : V} {v : Value} (r : RelV x v) : (v == Value.none) = decide (x = .non) := by
  cases x with
  | non => cases r; rfl
  | bl _ => cases r; rfl
  | int _ => obtain ⟨t, rfl⟩ := r; rfl
  | str _ => obtain ⟨t, rfl⟩ := r; rfl
  | byt _ => obtain ⟨t, rfl⟩ := r; rfl
  | flt _ => obtain ⟨t, rfl⟩ := r; rfl
  | ref _ => cases r; rfl
  | ty _ => cases r; rfl
theorem pc_isN {j pos'} (ha : PE X a ta) : PC X .Is a (.Constant .none j pos') (tIsN ta) := by
  intro pins s σ H Q I h
  refine thn (ha pins s σ H _ I h) fun v s1 ⟨x, H1, I1, r1, q1⟩ => ?_
  exact Constant_none (is_none_gen ⟨.bl _, H1, I1, by rw [r1.none_iff]; rfl, q1⟩)
theorem pc_notN {j pos'} (ha : PE X a ta) : PC X .IsNot a (.Constant .none j pos') (tNotN ta) := by
  intro pins s σ H Q I h
  refine thn (ha pins s σ H _ I h) fun v s1 ⟨x, H1, I1, r1, q1⟩ => ?_
  exact Constant_none (isnot_none_gen ⟨.bl _, H1, I1, by rw [r1.none_iff]; rfl, q1⟩)
/-- a comparison as a value, as a test -/
def tB (t : TE) : TT := fun σ H Q => t σ H fun x H1 => ∃ c, x = .bl c ∧ Q c H1
theorem pe_cmp {op : CmpOp} {t : TE} (h : PC X op a b t) (h1 : behindInMarks op b = false := by first | exact nobehind _ (by decide) (by decide) | rfl) : PE X (.Compare a [op] [b] pos) t := fun pins s σ H Q I hw => wpAny_Compare1 (h pins s σ H Q I hw) h1
theorem pt_cmp {op : CmpOp} {t : TE} (h : PC X op a b t) (h1 : behindInMarks op b = false := by first | exact nobehind _ (by decide) (by decide) | rfl) : PT X (.Compare a [op] [b] pos) (tB t) := by
  intro pins s σ H Q I hw
  refine wpAny_isTrue_Compare1 (thn (h pins s σ H _ I hw) fun v s1 h1 => thn h1 fun u s2 h2 => thn h2 fun c s3 ⟨x, H1, I1, r1, q1⟩ => ?_) h1
  obtain ⟨d, rfl, q⟩ := q1
  cases r1
  exact wpAny_truthy_bool ⟨H1, I1, q⟩
/-- an expression whose value is a bool, as a test -/
theorem pt_val {e : Expr} {t : TE} (h : PE X e t) (he : ∀ whole, isTrue e X.env whole = (do let v ← whole; standAt e.pos; holding [v] (truthy v)) := by intro _; rfl) : PT X e (tB t) := by
  intro pins s σ H Q I hw
  refine isTrue_plain (thn (h pins s σ H _ I hw) fun v s1 ⟨x, H1, I1, r1, q1⟩ => ?_) (he _)
  obtain ⟨d, rfl, q⟩ := q1
  cases r1
  exact wpAny_truthy_bool ⟨H1, I1, q⟩

/-! ### and, or, not -/
variable {tA tB' : TT} {rest : List Expr}
def tAnd (t u : TT) : TT := fun σ H Q => t σ H fun c H1 => if c = true then u σ H1 Q else Q false H1
def tOr (t u : TT) : TT := fun σ H Q => t σ H fun c H1 => if c = true then Q true H1 else u σ H1 Q
def tNot (t : TT) : TT := fun σ H Q => t σ H fun c H1 => Q (!c) H1
theorem pw_and1 (ha : PT X a tA) : PW X (.BoolOp .And [a] pos) tA := by
  intro wh pins s σ H Q I h
  refine isTrue_and (thn (ha pins s σ H Q I h) fun c s1 e => ?_)
  cases c with
  | true => exact isTrue_and_nil e
  | false => exact e
theorem pw_or1 (ha : PT X a tA) : PW X (.BoolOp .Or [a] pos) tA := by
  intro wh pins s σ H Q I h
  refine isTrue_or (thn (ha pins s σ H Q I h) fun c s1 e => ?_)
  cases c with
  | false => exact isTrue_or_nil e
  | true => exact e
theorem pw_and (ha : PT X a tA) (hb : PW X (.BoolOp .And (b :: rest) pos) tB') : PW X (.BoolOp .And (a :: b :: rest) pos) (tAnd tA tB') := by
  intro wh pins s σ H Q I h
  refine isTrue_and (thn (ha pins s σ H _ I h) fun c s1 ⟨H1, I1, q1⟩ => ?_)
  cases c with
  | true => exact hb wh pins s1 σ H1 Q I1 q1
  | false => exact ⟨H1, I1, q1⟩
theorem pw_or (ha : PT X a tA) (hb : PW X (.BoolOp .Or (b :: rest) pos) tB') : PW X (.BoolOp .Or (a :: b :: rest) pos) (tOr tA tB') := by
  intro wh pins s σ H Q I h
  refine isTrue_or (thn (ha pins s σ H _ I h) fun c s1 ⟨H1, I1, q1⟩ => ?_)
  cases c with
  | true => exact ⟨H1, I1, q1⟩
  | false => exact hb wh pins s1 σ H1 Q I1 q1
theorem pt_not (ha : PT X a tA) : PT X (.UnaryOp .Not a pos) (tNot tA) := by
  intro pins s σ H Q I h
  exact isTrue_not (ha pins s σ H (fun c H1 => Q (!c) H1) I h)
/-- .. as values (bools) -/
def tAndV (ta tb : TE) : TE := fun σ H Q => ta σ H fun x H1 => ∃ c, x = .bl c ∧ if c = true then tb σ H1 Q else Q (.bl false) H1
def tOrV (ta tb : TE) : TE := fun σ H Q => ta σ H fun x H1 => ∃ c, x = .bl c ∧ if c = true then Q (.bl true) H1 else tb σ H1 Q
def tNotV (ta : TE) : TE := fun σ H Q => ta σ H fun x H1 => ∃ c, x = .bl c ∧ Q (.bl (!c)) H1
theorem pe_one {op} {t : TE} (h : PE X a t) : PE X (.BoolOp op [a] pos) t := fun pins s σ H Q I hw => BoolOp_one (h pins s σ H Q I hw)
theorem pe_and (ha : PE X a ta) (hb : PE X (.BoolOp .And (b :: rest) pos) tb) : PE X (.BoolOp .And (a :: b :: rest) pos) (tAndV ta tb) := by
  intro pins s σ H Q I h
  refine BoolOp_and (thn (ha pins s σ H _ I h) fun v s1 ⟨x, H1, I1, r1, q1⟩ => ?_)
  obtain ⟨c, rfl, q1⟩ := q1
  cases r1
  refine wpAny_truthy_bool ?_
  cases c with
  | true => exact hb pins s1 σ H1 Q I1 q1
  | false => exact ⟨.bl false, H1, I1, rfl, q1⟩
theorem pe_or (ha : PE X a ta) (hb : PE X (.BoolOp .Or (b :: rest) pos) tb) : PE X (.BoolOp .Or (a :: b :: rest) pos) (tOrV ta tb) := by
  intro pins s σ H Q I h
  refine BoolOp_or (thn (ha pins s σ H _ I h) fun v s1 ⟨x, H1, I1, r1, q1⟩ => ?_)
  obtain ⟨c, rfl, q1⟩ := q1
  cases r1
  refine wpAny_truthy_bool ?_
  cases c with
  | false => exact hb pins s1 σ H1 Q I1 q1
  | true => exact ⟨.bl true, H1, I1, rfl, q1⟩
theorem pe_not (ha : PE X a ta) : PE X (.UnaryOp .Not a pos) (tNotV ta) := by
  intro pins s σ H Q I h
  refine UnaryOp_ (thn (ha pins s σ H _ I h) fun v s1 ⟨x, H1, I1, r1, q1⟩ => ?_)
  obtain ⟨c, rfl, q1⟩ := q1
  cases r1
  exact not_of (wpAny_truthy_bool ⟨.bl (!c), H1, I1, rfl, q1⟩)
/-- a if t else b -/
def tIf (t : TT) (ta tb : TE) : TE := fun σ H Q => t σ H fun c H1 => if c = true then ta σ H1 Q else tb σ H1 Q
theorem pe_ifExp {c : Expr} (hc : PT X c tA) (ha : PE X a ta) (hb : PE X b tb) : PE X (.IfExp c a b pos) (tIf tA ta tb) := by
  intro pins s σ H Q I h
  refine wpAny_IfExp (thn (hc pins s σ H _ I h) fun d s1 ⟨H1, I1, q1⟩ => ?_)
  cases d with
  | true => exact ha pins s1 σ H1 Q I1 q1
  | false => exact hb pins s1 σ H1 Q I1 q1
end
end L2

namespace L2
open PySem PySem.Spec PyProof.Rows

/-! ### a list, a tuple that is read: tracked, frozen, or an object of the module -/
def SqL (K : PySem.W.Frag) (H : Hp) (a : Addr) (xs : List V) : Prop :=
  Rd H a (.lst xs) ∨
    ∃ (o : Obj) (its : Array Value) (n : Nat), K.lookup a = some o ∧ o.cls = .type "list" ∧ o.dict = none ∧ o.data = .seq its n ∧ its.size ≤ sizeLine ∧ Vals xs its.toList
def SqT (K : PySem.W.Frag) (H : Hp) (a : Addr) (xs : List V) : Prop :=
  Rd H a (.tup xs) ∨
    ∃ (o : Obj) (its : Array Value) (n : Nat), K.lookup a = some o ∧ o.cls = .type "tuple" ∧ o.data = .seq its n ∧ its.size ≤ sizeLine ∧ Vals xs its.toList
def absV : Value → Option V
  | .none => some .non
  | .bool b => some (.bl b)
  | .int i _ => some (.int i)
  | .str x _ => some (.str x)
  | .bytes b _ => some (.byt b)
  | .float b _ => some (.flt b)
  | .ref a => some (.ref a)
  | .type n => some (.ty n)
  | _ => none
theorem RelV.abs {x : V} {u : Value} (r : RelV x u) : absV u = some x := by
  cases x with
  | non => cases r; rfl
  | bl _ => cases r; rfl
  | int _ => obtain ⟨t, rfl⟩ := r; rfl
  | str _ => obtain ⟨t, rfl⟩ := r; rfl
  | byt _ => obtain ⟨t, rfl⟩ := r; rfl
  | flt _ => obtain ⟨t, rfl⟩ := r; rfl
  | ref _ => cases r; rfl
  | ty _ => cases r; rfl
theorem RelV.inj {x y : V} {u : Value} (r : RelV x u) (q : RelV y u) : x = y := Option.some.inj (r.abs.symm.trans q.abs)
theorem Vals.inj : ∀ {xs ys : List V} {us : List Value}, Vals xs us → Vals ys us → xs = ys
  | _, _, _, .nil, .nil => rfl
  | _, _, _, .cons r t, .cons r' t' => by rw [r.inj r', Vals.inj t t']
section
variable {X : Cx} {pins : List (Addr × Obj)} {σ : St} {H : Hp} {s : Shared} {a : Addr} {xs ys : List V}
theorem SqL.of {K : PySem.W.Frag} (h : H a = some (.lst xs)) : SqL K H a xs := .inl (.inl h)
theorem SqT.of {K : PySem.W.Frag} (h : H a = some (.tup xs)) : SqT K H a xs := .inl (.inl h)
theorem Inv.list (I : Inv X pins σ H s) (h : SqL X.K H a xs) : ∃ its : List Value, Vals xs its ∧ PlainL s.heap a its.toArray ∧ xs.length ≤ sizeLine := by
  rcases h with h | ⟨o, its, n, hk, hc, hd, hs, hz, r⟩
  · obtain ⟨z, its, n, r, e⟩ := h.ok I.hok
    exact ⟨its, r, ⟨_, n, e, rfl, rfl, rfl⟩, z⟩
  · refine ⟨its.toList, r, ⟨o, n, I.kIn a o hk, hc, hd, by simpa using hs⟩, ?_⟩
    have e := r.length
    simp only [Array.length_toList] at e
    omega
theorem Inv.tuple (I : Inv X pins σ H s) (h : SqT X.K H a xs) : ∃ its : List Value, Vals xs its ∧ IsTup s.heap a its.toArray ∧ xs.length ≤ sizeLine := by
  rcases h with h | ⟨o, its, n, hk, hc, hs, hz, r⟩
  · obtain ⟨z, its, r, p⟩ := h.ok I.hok
    exact ⟨its, r, p, z⟩
  · refine ⟨its.toList, r, ⟨o, I.kIn a o hk, hc, n, by simpa using hs⟩, ?_⟩
    have e := r.length
    simp only [Array.length_toList] at e
    omega
theorem Inv.list_inj (I : Inv X pins σ H s) (h : SqL X.K H a xs) (h' : SqL X.K H a ys) : xs = ys := by
  obtain ⟨its, r, ⟨o, n, e, _, _, d⟩, _⟩ := I.list h
  obtain ⟨its', r', ⟨o', n', e', _, _, d'⟩, _⟩ := I.list h'
  rw [e] at e'; cases e'
  rw [d] at d'
  injection d' with d1 _
  have : its = its' := by simpa using congrArg Array.toList d1
  subst this
  exact r.inj r'
theorem Inv.tuple_inj (I : Inv X pins σ H s) (h : SqT X.K H a xs) (h' : SqT X.K H a ys) : xs = ys := by
  obtain ⟨its, r, ⟨o, e, _, n, d⟩, _⟩ := I.tuple h
  obtain ⟨its', r', ⟨o', e', _, n', d'⟩, _⟩ := I.tuple h'
  rw [e] at e'; cases e'
  rw [d] at d'
  injection d' with d1 _
  have : its = its' := by simpa using congrArg Array.toList d1
  subst this
  exact r.inj r'
end

/-! ### another wish about exceptions -/
abbrev Cx.wish (X : Cx) (E : Value → Shared → Prop) : Cx := { X with xe := E }
/-- no exception leaves -/
abbrev Cx.nox (X : Cx) : Cx := X.wish fun _ _ => False
theorem Cx.Ok.wish {X : Cx} (ok : X.Ok) (E : Value → Shared → Prop) : (X.wish E).Ok :=
  ⟨ok.mod, ok.kind, ok.glob, ok.blt, ok.above, ok.inj, ok.has, ok.cab, ok.hd, ok.frames, ok.stk, ok.exf, ok.bs, ok.bsz, ok.noex, ok.exfs, ok.funs, ok.frf⟩
theorem Cx.Ok.unwish {X : Cx} {E : Value → Shared → Prop} (ok : (X.wish E).Ok) : X.Ok :=
  ⟨ok.mod, ok.kind, ok.glob, ok.blt, ok.above, ok.inj, ok.has, ok.cab, ok.hd, ok.frames, ok.stk, ok.exf, ok.bs, ok.bsz, ok.noex, ok.exfs, ok.funs, ok.frf⟩
section
variable {X : Cx} {pins : List (Addr × Obj)} {σ : St} {H : Hp} {s : Shared} {E : Value → Shared → Prop}
theorem Inv.wish (I : Inv X pins σ H s) (E : Value → Shared → Prop) : Inv (X.wish E) pins σ H s := ⟨I.ok.wish E, I.os, I.bare, I.base, I.loc, I.cell, I.free, I.freeC, I.pin, I.hok, I.len⟩
theorem Inv.unwish (I : Inv (X.wish E) pins σ H s) : Inv X pins σ H s := ⟨I.ok.unwish, I.os, I.bare, I.base, I.loc, I.cell, I.free, I.freeC, I.pin, I.hok, I.len⟩
theorem SP.unwish {D : Ends} {f : Flow} {s' : Shared} (h : SP (X.wish E) pins D f s') : SP X pins D f s' := by
  cases f with
  | next => obtain ⟨σ', H', I, q⟩ := h; exact ⟨σ', H', I.unwish, q⟩
  | brk => obtain ⟨σ', H', I, q⟩ := h; exact ⟨σ', H', I.unwish, q⟩
  | cont => obtain ⟨σ', H', I, q⟩ := h; exact ⟨σ', H', I.unwish, q⟩
  | ret u => obtain ⟨v, σ', H', I, r, q⟩ := h; exact ⟨v, σ', H', I.unwish, r, q⟩
theorem PE.nox {e : Expr} {t : TE} (h : PE X.nox e t) : PE X e t := fun pins s σ H Q I hw =>
  wpAny_mono (h pins s σ H Q (I.wish _) hw) (fun _ _ ⟨v, H', I', r, q⟩ => ⟨v, H', I'.unwish, r, q⟩) fun _ _ z => False.elim z
theorem PT.nox {e : Expr} {t : TT} (h : PT X.nox e t) : PT X e t := fun pins s σ H Q I hw =>
  wpAny_mono (h pins s σ H Q (I.wish _) hw) (fun _ _ ⟨H', I', q⟩ => ⟨H', I'.unwish, q⟩) fun _ _ z => False.elim z
theorem PSs.nox {st : List Stmt} {t : TS} (h : PSs X.nox st t) : PSs X st t := fun pins s σ H D I hw =>
  wpAny_mono (h pins s σ H D (I.wish _) hw) (fun _ _ q => q.unwish) fun _ _ z => False.elim z
end

/-! ### blocks and small statements -/
section
variable {X : Cx} {st : Stmt} {rest : List Stmt} {t u : TS} {e : Expr} {te : TE} {pos : Pos}
def tNext : TS := fun D σ H => D.nx σ H
def tSeq (t u : TS) : TS := fun D σ H => t { D with nx := u D } σ H
theorem pss_nil : PSs X [] tNext := fun _ _ σ H _ I h => wpAny_execs_nil ⟨σ, H, I, h⟩
theorem pss_cons (h1 : PS X st t) (h2 : PSs X rest u) : PSs X (st :: rest) (tSeq t u) := by
  intro pins s σ H D I h
  refine wpAny_execs_cons (thn (h1 pins s σ H { D with nx := u D } I h) fun f s1 q => ?_)
  cases f with
  | next =>
    obtain ⟨σ', H', I', q⟩ := q
    exact h2 pins s1 σ' H' D I' q
  | ret v => exact q
  | brk => exact q
  | cont => exact q
theorem pss_one (h1 : PS X st t) : PSs X [st] t := by
  intro pins s σ H D I h
  refine wpAny_execs_cons (thn (h1 pins s σ H D I h) fun f s1 q => ?_)
  cases f with
  | next => exact wpAny_execs_nil q
  | ret v => exact q
  | brk => exact q
  | cont => exact q
def tBreak : TS := fun D σ H => D.bk σ H
def tCont : TS := fun D σ H => D.ct σ H
theorem ps_pass : PS X (.Pass pos) tNext := fun _ _ σ H _ I h => wpAny_Pass ⟨σ, H, I, h⟩
theorem ps_break : PS X (.Break pos) tBreak := fun _ _ σ H _ I h => wpAny_Break ⟨σ, H, I, h⟩
theorem ps_continue : PS X (.Continue pos) tCont := fun _ _ σ H _ I h => wpAny_Continue ⟨σ, H, I, h⟩
/-- in a def's body nothing is shown -/
theorem Inv.quiet {pins : List (Addr × Obj)} {σ : St} {H : Hp} {s : Shared} (I : Inv X pins σ H s) : interactive X.env = false := by simp [interactive, I.ok.kind]
/-- a docstring -/
theorem ps_doc {x j pos pos'} : PS X (.Expr (.Constant (.str x) j pos) pos') tNext := fun _ s σ H _ I h => wpAny_Expr (Calls.Constant_str (show SP X _ _ .next { s with toks := s.toks + 1 } from ⟨σ, H, I.tok _, h⟩)) I.quiet
/-- an expression whose value is dropped -/
def tDrop (te : TE) : TS := fun D σ H => te σ H fun _ H1 => D.nx σ H1
theorem ps_expr (he : PE X e te) (hs : swapsWith e none pos.line X.env = pure false := by rfl) : PS X (.Expr e pos) (tDrop te) := by
  intro pins s σ H D I h
  exact wpAny_Expr_any (thn (he pins s σ H _ I h) fun v s1 ⟨x, H1, I1, r1, q1⟩ => ⟨σ, H1, I1, q1⟩) I.quiet hs
def tRet (te : TE) : TS := fun D σ H => te σ H D.rt
theorem ps_ret (he : PE X e te) : PS X (.Return (some e) pos) (tRet te) := by
  intro pins s σ H D I h
  exact wpAny_Return_some (thn (he pins s σ H _ I h) fun v s1 ⟨x, H1, I1, r1, q1⟩ => ⟨x, σ, H1, I1, r1, q1⟩)
def tRetN : TS := fun D _ H => D.rt .non H
theorem ps_retN : PS X (.Return none pos) tRetN := fun _ _ σ H _ I h => wpAny_Return_none ⟨.non, σ, H, I, rfl, h⟩
def tIfS (c : TT) (t u : TS) : TS := fun D σ H => c σ H fun b H1 => if b = true then t D σ H1 else u D σ H1
theorem ps_if {c : Expr} {a b : List Stmt} {tc : TT} (hc : PT X c tc) (ha : PSs X a t) (hb : PSs X b u) : PS X (.If c a b pos) (tIfS tc t u) := by
  intro pins s σ H D I h
  refine wpAny_If (thn (hc pins s σ H _ I h) fun d s1 ⟨H1, I1, q1⟩ => ?_)
  cases d with
  | true => exact ha pins s1 σ H1 D I1 q1
  | false => exact hb pins s1 σ H1 D I1 q1
/-- code that the proof never comes to -/
def tNever : TS := fun _ _ _ => False
theorem ps_never : PS X st tNever := fun _ _ _ _ _ _ h => h.elim
theorem pss_never {sts : List Stmt} : PSs X sts tNever := fun _ _ _ _ _ _ h => h.elim
end

/-! ### targets -/
abbrev TG := V → St → Hp → (St → Hp → Prop) → Prop
abbrev TGs := List V → St → Hp → (St → Hp → Prop) → Prop
def PG (X : Cx) (target : Expr) (t : TG) : Prop :=
  ∀ (pins : List (Addr × Obj)) (s : Shared) (σ : St) (H : Hp) (v : V) (u : Value) (Q : St → Hp → Prop), Inv X pins σ H s → RelV v u → t v σ H Q →
    wpAny (model X.prog X.w) X.A (assign target X.env u) (fun _ s' => ∃ σ' H', Inv X pins σ' H' s' ∧ Q σ' H') X.xe s
/-- several targets, one after another -/
def PGs (X : Cx) (ts : List Expr) (t : TGs) : Prop :=
  ∀ (pins : List (Addr × Obj)) (s : Shared) (σ : St) (H : Hp) (vs : List V) (us : List Value) (Q : St → Hp → Prop), Inv X pins σ H s → Vals vs us → t vs σ H Q →
    wpAny (model X.prog X.w) X.A (assignInOrder ((assignEach ts X.env).map (·.2)) us) (fun _ s' => ∃ σ' H', Inv X pins σ' H' s' ∧ Q σ' H') X.xe s
/-- o[i] = v, by values -/
abbrev TSet := V → V → V → Hp → (Hp → Prop) → Prop
def PSet (X : Cx) (t : TSet) : Prop :=
  ∀ (pins : List (Addr × Obj)) (s : Shared) (σ : St) (H : Hp) (o i v : V) (ov iv u : Value) (Q : Hp → Prop), Inv X pins σ H s → RelV o ov → RelV i iv → RelV v u → t o i v H Q →
    wpAny (model X.prog X.w) X.A (setItem ov iv u) (fun _ s' => ∃ H', Inv X pins σ H' s' ∧ Q H') X.xe s
/-- a op= b, by values -/
abbrev TIp := V → V → Hp → VK → Prop
def PIp (X : Cx) (op : Operator) (t : TIp) : Prop :=
  ∀ (pins : List (Addr × Obj)) (s : Shared) (σ : St) (H : Hp) (x y : V) (v u : Value) (Q : VK), Inv X pins σ H s → RelV x v → RelV y u → t x y H Q →
    wpAny (model X.prog X.w) X.A (inplaceOp op v u) (EP X pins σ Q) X.xe s
section
variable {X : Cx} {pos : Pos}
def gName (i : Nat) : TG := fun v σ H Q => Q (σ.set i (some v)) H
theorem pg_name {i : Nat} {x : Str} (hN : X.N.Nodup) (hi : X.N[i]? = some x) (hx : Loc X.env.scope x) (hf : X.fn x = true ∨ X.env.scope.names.lookup x = some .local := by first | exact .inl rfl | exact .inr rfl | assumption) : PG X (.Name x pos) (gName i) := by
  intro pins s σ H v u Q I r h
  exact wpAny_assign_Name (store_ok I hN hi hx r (fun s' I' => ⟨_, H, I', h⟩) hf)
def gNil : TGs := fun vs σ H Q => vs = [] ∧ Q σ H
def gCons (t : TG) (u : TGs) : TGs := fun vs σ H Q => ∃ v r, vs = v :: r ∧ t v σ H fun σ' H' => u r σ' H' Q
theorem pgs_nil : PGs X [] gNil := by
  intro pins s σ H vs us Q I r h
  obtain ⟨e, h⟩ := h
  subst e
  cases r
  exact assignInOrder_nil ⟨σ, H, I, h⟩
theorem pgs_cons {e : Expr} {es : List Expr} {t : TG} {u : TGs} (h1 : PG X e t) (h2 : PGs X es u)
    (hs : (assignEach (e :: es) X.env).map (·.2) = assign e X.env :: (assignEach es X.env).map (·.2) := by rfl) : PGs X (e :: es) (gCons t u) := by
  intro pins s σ H vs us Q I r h
  obtain ⟨v, vr, e1, h⟩ := h
  subst e1
  cases r with
  | cons r rr =>
    rw [hs]
    refine assignInOrder_cons (thn (h1 pins s σ H _ _ _ I r h) fun _ s1 ⟨σ1, H1, I1, q1⟩ => ?_)
    exact h2 pins s1 σ1 H1 _ _ Q I1 rr q1
/-- (a, b, ..) = a tuple of that length -/
def gTup (K : PySem.W.Frag) (n : Nat) (t : TGs) : TG := fun v σ H Q => ∃ a xs, v = .ref a ∧ SqT K H a xs ∧ xs.length = n ∧ t xs σ H Q
theorem pg_tup {es : List Expr} {k : Nat} {t : TGs} {n : Nat} (hc : X.calm = true) (h : PGs X es t)
    (hn : (assignEach es X.env).length = n := by rfl) (hst : (assignEach es X.env).findIdx? (·.1) = none := by rfl) : PG X (.Tuple es k pos) (gTup X.K n t) := by
  intro pins s σ H v u Q I r hw
  obtain ⟨a, xs, e1, hq, hl, hw⟩ := hw
  subst e1
  cases r
  obtain ⟨its, rv, ht, hz⟩ := I.tuple hq
  refine assign_Tuple_tuple (I.ok.hd hc) ht (by simp [hn, ← hl, rv.length]) hst fun h' hx => ?_
  have I1 : Inv X pins σ H { s with heap := h' } := I.kept (t' := s.toks) fun b o e => hx b o (Nat.ne_of_lt (Heap.lt_size e)) e
  exact h pins _ σ H xs _ Q I1 (by simpa using rv) hw
/-- o[i] = .. -/
def gSub (to ti : TE) (t : TSet) : TG := fun v σ H Q => to σ H fun o H1 => ti σ H1 fun i H2 => t o i v H2 fun H3 => Q σ H3
theorem pg_sub {o i : Expr} {to ti : TE} {t : TSet} (ho : PE X o to) (hi : PE X i ti) (hs : PSet X t)
    (ha : ∀ v, assign (.Subscript o i pos) X.env v = (do
      let ov ← holding [v] (eval o X.env)
      let iv ← holding [v, ov] (eval i X.env)
      standAt pos
      holding [v, ov, iv] (setItem ov iv v)
      release [v, ov, iv] []) := by intro _; rfl) : PG X (.Subscript o i pos) (gSub to ti t) := by
  intro pins s σ H v u Q I r h
  rw [ha]
  refine wpAny_bind (wpAny_holding (thn (ho pins s σ H _ I h) fun ov s1 ⟨x, H1, I1, r1, q1⟩ => ?_))
  refine wpAny_bind (wpAny_holding (thn (hi pins s1 σ H1 _ I1 q1) fun iv s2 ⟨y, H2, I2, r2, q2⟩ => ?_))
  refine wpAny_bind (wpAny_standAt (wpAny_bind (wpAny_holding (thn (hs pins s2 σ H2 x y v ov iv u _ I2 r1 r2 r q2) fun _ s3 ⟨H3, I3, q3⟩ => ?_))))
  exact wpAny_release ⟨σ, H3, I3, q3⟩
/-- target = value -/
def tAsg (te : TE) (g : TG) : TS := fun D σ H => te σ H fun x H1 => g x σ H1 D.nx
theorem ps_asg {tg e : Expr} {te : TE} {g : TG} (he : PE X e te) (hg : PG X tg g) (hs : swapsWithSole [tg] e pos.line X.env = pure false := by rfl) (hw : swappedStores [tg] e X.env = pure none := by rfl)
    (h1 : (assignEach [tg] X.env).map (·.2) = [assign tg X.env] := by rfl) : PS X (.Assign [tg] e pos) (tAsg te g) := by
  intro pins s σ H D I h
  refine wpAny_Assign_stores (thn (he pins s σ H _ I h) fun v s1 ⟨x, H1, I1, r1, q1⟩ => ?_) hs hw
  rw [h1]
  exact thn (hg pins s1 σ H1 x v _ I1 r1 q1) fun _ s2 q => q
/-- name = value -/
theorem ps_set {i : Nat} {x : Str} {e : Expr} {te : TE} {pos' : Pos} (hN : X.N.Nodup) (hi : X.N[i]? = some x) (hx : Loc X.env.scope x) (he : PE X e te) (hs : swapsWith e (some (.Name x pos')) pos.line X.env = pure false := by rfl) (hf : X.fn x = true ∨ X.env.scope.names.lookup x = some .local := by first | exact .inl rfl | exact .inr rfl | assumption) :
    PS X (.Assign [.Name x pos'] e pos) (tAsg te (gName i)) := by
  intro pins s σ H D I h
  refine wpAny_Assign_Name (thn (he pins s σ H _ I h) fun v s1 ⟨y, H1, I1, r1, q1⟩ => ?_) hs
  exact store_ok I1 hN hi hx r1 (fun s2 I2 => ⟨_, H1, I2, q1⟩) hf
/-- a, b = x, y with plain local names: stored from the right; the pair itself is not tracked (the opening rows as in PyProof/Rows/TupAssign.lean:23) -/
def tPar (i j : Nat) (ta : TA) : TS := fun D σ H => ta σ H fun vs H1 => ∃ v w, vs = [v, w] ∧ D.nx ((σ.set i (some v)).set j (some w)) H1
theorem ps_par {i j : Nat} {x y : Str} {a b : Expr} {ta : TA} {px py pt : Pos} {kt k2 pt2} (hc : X.calm = true) (hN : X.N.Nodup) (hi : X.N[i]? = some x) (hj : X.N[j]? = some y) (hij : i ≠ j)
    (hx : X.env.scope.names.lookup x = some .local) (hy : X.env.scope.names.lookup y = some .local) (ha : PA X [a, b] ta)
    (hw : swappedStores [.Tuple [.Name x px, .Name y py] kt pt] (.Tuple [a, b] k2 pt2) X.env = pure (some [x, y]))
    (hs : swapsWithSole [.Tuple [.Name x px, .Name y py] kt pt] (.Tuple [a, b] k2 pt2) pos.line X.env = pure false := by rfl) :
    PS X (.Assign [.Tuple [.Name x px, .Name y py] kt pt] (.Tuple [a, b] k2 pt2) pos) (tPar i j ta) := by
  intro pins s σ H D I h
  rw [exec_Assign_arm]
  refine wpAny_bind (wpAny_standAt ?_)
  rw [hs]
  refine wpAny_bind (wpAny_pure ?_)
  rw [if_neg (by decide)]
  refine wpAny_bind (Tuple_ (thn (ha _ pins s σ H _ I h) fun us s1 ⟨vs, H1, I1, r1, q1⟩ => ?_))
  obtain ⟨v, w, e1, q1⟩ := q1
  subst e1
  obtain ⟨u1, u2, rfl, rv, rw'⟩ : ∃ u1 u2, us = [u1, u2] ∧ RelV v u1 ∧ RelV w u2 := by
    cases r1 with
    | cons p q =>
      cases q with
      | cons p' q' =>
        cases q'
        exact ⟨_, _, rfl, p, p'⟩
  refine wpAny_newObj_type ?_ (by show 2 ≤ sizeLine; decide)
  have I2 : Inv X pins σ H1 { s1 with heap := s1.heap.push { cls := .type "tuple", data := .seq [u1, u2].toArray } } := I1.kept (t' := s1.toks) fun b o e => Heap.get?_push_of_some _ e
  rw [hw]
  refine wpAny_bind (wpAny_pure ?_)
  show wpAny (model X.prog X.w) X.A (do rule "assign.swapped-stores"; let items ← unpackItems (.ref s1.heap.objs.size) 2 none; assignInOrder [fun v => bindName X.env y v, fun v => bindName X.env x v] items.reverse; pure Flow.next) _ _ _
  refine wpAny_bind (wpAny_rule (wpAny_bind (unpackItems_tuple (items := #[u1, u2]) (I.ok.hd hc) (IsTup.new s1.heap _) fun h' hx' => ?_)))
  have I3 := I2.kept (h' := h') (t' := s1.toks) fun b o e => hx' b o (Nat.ne_of_lt (Heap.lt_size e)) e
  show wpAny _ _ (assignInOrder [fun v => bindName X.env y v, fun v => bindName X.env x v] [u2, u1] >>= fun _ => pure Flow.next) _ _ _
  refine wpAny_bind (assignInOrder_cons (wpAny_bindName (store_ok I3 hN hj (.inl hy) rw' (fun s2 I4 => ?_) (.inr hy))))
  refine assignInOrder_cons (wpAny_bindName (store_ok I4 hN hi (.inl hx) rv (fun s3 I5 => assignInOrder_nil (wpAny_pure ?_)) (.inr hx)))
  rw [List.set_comm _ _ (Ne.symm hij)] at I5
  exact ⟨_, H1, I5, q1⟩
/-- name op= e -/
def tAug (i : Nat) (te : TE) (ti : TIp) : TS := fun D σ H => ∃ x, σ[i]? = some (some x) ∧ te σ H fun y H1 => ti x y H1 fun z H2 => D.nx (σ.set i (some z)) H2
theorem ps_aug {i : Nat} {x : Str} {e : Expr} {te : TE} {op : Operator} {ti : TIp} {pos' : Pos} (hN : X.N.Nodup) (hi : X.N[i]? = some x) (hx : Loc X.env.scope x) (he : PE X e te) (ho : PIp X op ti) (hf : X.fn x = true ∨ X.env.scope.names.lookup x = some .local := by first | exact .inl rfl | exact .inr rfl | assumption) :
    PS X (.AugAssign (.Name x pos') op e pos) (tAug i te ti) := by
  intro pins s σ H D I h
  obtain ⟨v, e1, h⟩ := h
  obtain ⟨m, hn, hl⟩ := I.loc
  have vis : Vis X.env.scope x := by rcases hx with k | k; exact .inl k; exact .inr (.inl k)
  obtain ⟨u, r, l⟩ := hl i x v hi e1 vis
  refine wpAny_AugAssign_Name ?_
  have go : wpAny (model X.prog X.w) X.A (eval e X.env) (fun w s₂ => wpAny (model X.prog X.w) X.A (inplaceOp op u w) (fun r s₃ => wpAny (model X.prog X.w) X.A (storeName X.env x r) (fun _ => SP X pins D .next) X.xe s₃) X.xe s₂) X.xe s := by
    refine thn (he pins s σ H _ I h) fun w s1 ⟨y, H1, I1, r1, q1⟩ => ?_
    refine thn (ho pins s1 σ H1 v y u w _ I1 r r1 q1) fun z s2 ⟨zv, H2, I2, r2, q2⟩ => ?_
    exact store_ok I2 hN hi hx r2 (fun s3 I3 => ⟨_, H2, I3, q2⟩) hf
  rcases l with ⟨hk, hm⟩ | ⟨hk, c, hc, hcell⟩
  · exact wpAny_loadName_local I.ok.kind hk hn hm go
  · rcases hk with hk | hk
    · exact wpAny_loadName_cell I.ok.kind hk hc hcell go
    · rcases hx with k | k
      · have : X.env.scope.names.lookup x = some .free := hk
        rw [k] at this; cases this
      · have : X.env.scope.names.lookup x = some .free := hk
        rw [k] at this; cases this
/-- o[i] op= e -/
def tAugS (to ti te : TE) (tget : V → V → Hp → VK → Prop) (tip : TIp) (tset : TSet) : TS := fun D σ H => to σ H fun o H1 => ti σ H1 fun i H2 => tget o i H2 fun x H3 => te σ H3 fun y H4 => tip x y H4 fun z H5 => tset o i z H5 fun H6 => D.nx σ H6
/-- o[i], by values -/
def PGet (X : Cx) (t : V → V → Hp → VK → Prop) : Prop :=
  ∀ (pins : List (Addr × Obj)) (s : Shared) (σ : St) (H : Hp) (o i : V) (ov iv : Value) (Q : VK), Inv X pins σ H s → RelV o ov → RelV i iv → t o i H Q →
    wpAny (model X.prog X.w) X.A (getItem ov iv) (EP X pins σ Q) X.xe s
theorem ps_augS {o i e : Expr} {to ti te : TE} {tget : V → V → Hp → VK → Prop} {tip : TIp} {tset : TSet} {op : Operator} {tpos : Pos} (ho : PE X o to) (hi : PE X i ti) (hg : PGet X tget) (he : PE X e te) (hp : PIp X op tip) (hs : PSet X tset)
    (ha : ∀ ov iv new, augStore i ov iv new = (do holding [new, ov, iv] (setItem ov iv new); release [new, ov, iv] []; pure .next) := by intros; rfl) : PS X (.AugAssign (.Subscript o i tpos) op e pos) (tAugS to ti te tget tip tset) := by
  intro pins s σ H D I h
  refine wpAny_AugAssign_SubscriptAny (thn (ho pins s σ H _ I h) fun ov s1 ⟨x1, H1, I1, r1, q1⟩ => ?_) ha
  refine thn (hi pins s1 σ H1 _ I1 q1) fun iv s2 ⟨x2, H2, I2, r2, q2⟩ => ?_
  refine thn (hg pins s2 σ H2 x1 x2 ov iv _ I2 r1 r2 q2) fun old s3 ⟨x3, H3, I3, r3, q3⟩ => ?_
  refine thn (he pins s3 σ H3 _ I3 q3) fun v s4 ⟨x4, H4, I4, r4, q4⟩ => ?_
  refine thn (hp pins s4 σ H4 x3 x4 old v _ I4 r3 r4 q4) fun new s5 ⟨x5, H5, I5, r5, q5⟩ => ?_
  exact thn (hs pins s5 σ H5 x1 x2 x5 ov iv new _ I5 r1 r2 r5 q5) fun _ s6 ⟨H6, I6, q6⟩ => ⟨σ, H6, I6, q6⟩
/-- ints -/
def ipI (f : Int → Int → Int) : TIp := fun x y H Q => ∃ i j, x = .int i ∧ y = .int j ∧ Q (.int (f i j)) H
theorem ip_add : PIp X .Add (ipI fun i j => i + j) := by
  intro pins s σ H x y v u Q I r1 r2 h
  obtain ⟨i, j, e1, e2, q⟩ := h
  subst e1; subst e2
  obtain ⟨t, rfl⟩ := r1
  obtain ⟨t', rfl⟩ := r2
  exact iadd_int ⟨.int _, H, I.tok _, ⟨_, rfl⟩, q⟩
theorem ip_sub : PIp X .Sub (ipI fun i j => i - j) := by
  intro pins s σ H x y v u Q I r1 r2 h
  obtain ⟨i, j, e1, e2, q⟩ := h
  subst e1; subst e2
  obtain ⟨t, rfl⟩ := r1
  obtain ⟨t', rfl⟩ := r2
  exact isub_int ⟨.int _, H, I.tok _, ⟨_, rfl⟩, q⟩
end

/-! ### while -/
section
variable {X : Cx} {pos : Pos}
/-- the invariant W with its measure -/
def tWhile (c : TT) (tb : TS) : TS := fun D σ H => ∃ W : Nat → St → Hp → Prop, (∃ m, W m σ H) ∧ ∀ m σ H, W m σ H →
  c σ H fun b H1 => if b = true then ∃ N : St → Hp → Prop, (∀ σ' H', N σ' H' → ∃ m', m' < m ∧ W m' σ' H') ∧ tb { D with nx := N, ct := N, bk := D.nx } σ H1 else D.nx σ H1
theorem ps_while {c : Expr} {body : List Stmt} {tc : TT} {tb : TS} (hp : PassesOwn (model X.prog X.w) X.A X.env X.xe) (hc : PT X c tc) (hb : PSs X body tb) : PS X (.While c body [] pos) (tWhile tc tb) := by
  intro pins s σ H D I h
  obtain ⟨W, ⟨m0, w0⟩, turn⟩ := h
  refine wpAny_While (codeAny_whileLoop (fun n s' => ∃ σ' H', Inv X pins σ' H' s' ∧ W n σ' H') ?_ m0 ⟨σ, H, I, w0⟩)
  rintro n s1 ⟨σ1, H1, I1, w1⟩
  refine wpAny_passesOwn hp (thn (hc pins s1 σ1 H1 _ I1 (turn n σ1 H1 w1)) fun b s2 ⟨H2, I2, q2⟩ => ?_)
  cases b with
  | true =>
    obtain ⟨N, hN, q2⟩ := q2
    rw [if_pos rfl]
    refine wpAny_passesOwn hp (thn (hb pins s2 σ1 H2 _ I2 q2) fun f s3 q3 => ?_)
    cases f with
    | next =>
      obtain ⟨σ3, H3, I3, n3⟩ := q3
      obtain ⟨m', hm, w3⟩ := hN σ3 H3 n3
      exact ⟨m', hm, σ3, H3, I3, w3⟩
    | cont =>
      obtain ⟨σ3, H3, I3, n3⟩ := q3
      obtain ⟨m', hm, w3⟩ := hN σ3 H3 n3
      exact ⟨m', hm, σ3, H3, I3, w3⟩
    | brk => exact q3
    | ret v => exact q3
  | false =>
    rw [if_neg Bool.false_ne_true]
    exact wpAny_execs_nil ⟨σ1, H2, I2, q2⟩
end

/-! ### what a loop or a comprehension walks -/
/-- at turn i: it yields x (the heap may grow), or it stops -/
structure It where
  go : Nat → Hp → Prop
  yld : Nat → Hp → V → Hp → Prop
  stop : Nat → Hp → Prop
/-- the iterator's own objects may turn: they are not the frame's, not pinned, younger than the entry (or a comprehension's own) -/
def FpOk (X : Cx) (pins : List (Addr × Obj)) (H : Hp) (b : Addr) : Prop :=
  H b = none ∧ b ≠ X.env.locals ∧ b ∉ X.fs ∧ (b ∈ X.ex ∨ X.s₀.heap.objs.size ≤ b) ∧ (∀ x c, X.env.cells.lookup x = some c → c ≠ b) ∧ ∀ p ∈ X.pn ++ pins, p.1 ≠ b
theorem Inv.fpOk {X : Cx} {pins : List (Addr × Obj)} {σ : St} {H H' : Hp} {s : Shared} {b : Addr} (I : Inv X pins σ H s) (hb : s.heap.objs.size ≤ b) (hn : H' b = none) : FpOk X pins H' b := by
  refine ⟨hn, Nat.ne_of_gt (Nat.lt_of_lt_of_le I.lt hb), I.nofs hb, .inr (Nat.le_trans I.sz hb), fun x c e z => ?_, fun p hp z => ?_⟩
  · obtain ⟨v, q⟩ := I.cell x c e
    exact absurd (Nat.lt_of_lt_of_le q.lt (by rw [z]; exact hb)) (Nat.lt_irrefl _)
  · exact absurd (Nat.lt_of_lt_of_le (Heap.lt_size (I.pin p hp).1) (by rw [z]; exact hb)) (Nat.lt_irrefl _)
structure Turn (P : Program) (w : World) (K : PySem.W.Frag) (tg : Expr) (J : It) (fp : List Addr) (it : Addr) (tn : Nat → Heap → Prop) : Prop where
  mem : it ∈ fp
  obj : ∀ i h, tn i h → ∀ b ∈ fp, ∃ o, h.get? b = some o ∧ ∀ v, o.data ≠ .cell v
  keep : ∀ i h h', tn i h → (∀ b ∈ fp, ∀ o, h.get? b = some o → h'.get? b = some o) → tn i h'
  item : ∀ (X : Cx), X.prog = P → X.w = w → X.K = K → X.calm = true → ∀ (i : Nat) (pins : List (Addr × Obj)) (s : Shared) (σ : St) (H : Hp) (E : Value → Shared → Prop), Inv X pins σ H s → (∀ b ∈ fp, FpOk X pins H b) → tn i s.heap → J.go i H →
    wpAny (model P w) X.A (pyNext (.ref it)) (fun r s1 => ∃ u, r = some u ∧
      wpAny (model P w) X.A (letOwnedTupleGo tg (.ref it) u) (fun _ s2 => ∃ x H', Inv X pins σ H' s2 ∧ RelV x u ∧ J.yld i H x H' ∧ tn (i + 1) s2.heap ∧ ∀ b ∈ fp, H' b = none) E s1) E s
  done : ∀ (X : Cx), X.prog = P → X.w = w → X.K = K → X.calm = true → ∀ (i : Nat) (pins : List (Addr × Obj)) (s : Shared) (σ : St) (H : Hp) (E : Value → Shared → Prop), Inv X pins σ H s → (∀ b ∈ fp, FpOk X pins H b) → tn i s.heap → J.stop i H →
    wpAny (model P w) X.A (pyNext (.ref it)) (fun r s1 => r = none ∧ Inv X pins σ H s1) E s
  self : ∀ (A : Around) (i : Nat) (s : Shared) (Q : Value → Shared → Prop) (E : Value → Shared → Prop), tn i s.heap → Q (.ref it) s → wpAny (model P w) A (pyIter (.ref it)) Q E s
abbrev TI := St → Hp → (It → Hp → Prop) → Prop
/-- an iterator has come -/
def PIE (X : Cx) (pins : List (Addr × Obj)) (σ : St) (tg : Expr) (R : It → Hp → Prop) (itv : Value) (s2 : Shared) : Prop :=
  ∃ (it : Addr) (fp : List Addr) (tn : Nat → Heap → Prop) (J : It) (H' : Hp), itv = .ref it ∧ Inv X pins σ H' s2 ∧ Turn X.prog X.w X.K tg J fp it tn ∧ tn 0 s2.heap ∧ (∀ b ∈ fp, FpOk X pins H' b) ∧ R J H'
def PI (X : Cx) (tg iter : Expr) (wi : TI) : Prop :=
  ∀ (pins : List (Addr × Obj)) (s : Shared) (σ : St) (H : Hp) (R : It → Hp → Prop), Inv X pins σ H s → wi σ H R →
    wpAny (model X.prog X.w) X.A (eval iter X.env) (fun v s1 => wpAny (model X.prog X.w) X.A (pyIter v) (PIE X pins σ tg R) X.xe s1) X.xe s

/-- the step ahead of the store is nothing for an iterator that keeps no tuple -/
theorem go_of {M : Model} {A : Around} {E : Value → Shared → Prop} {s : Shared} {tg : Expr} {it : Addr} {u : Value} {o : Obj} {n : String} {vs : Array Value} {Q : Unit → Shared → Prop} (ho : s.heap.get? it = some o) (hc : o.cls = .type n) (hd : o.data = .fields vs)
    (hn : ["enumerate", "zip", "dict_itemiterator", "dict_reverseitemiterator", "odict_iterator", "itertools.zip_longest", "itertools.pairwise"].contains n = false) (hQ : Q () s) : wpAny M A (letOwnedTupleGo tg (.ref it) u) Q E s := by
  unfold letOwnedTupleGo
  cases tg <;> first
    | exact wpAny_pure hQ
    | (cases u <;> first
        | exact wpAny_pure hQ
        | (refine wpAny_bind (wpAny_load ho ?_)
           rw [hc, hd]
           show wpAny M A (if (["enumerate", "zip", "dict_itemiterator", "dict_reverseitemiterator", "odict_iterator", "itertools.zip_longest", "itertools.pairwise"].contains n && vs[0]? == some (rawInt _)) = true then _ else _) Q E s
           rw [if_neg (by intro h; rw [hn, Bool.false_and] at h; cases h)]
           exact wpAny_pure hQ))

/-- the list at a, as it stands at each turn (a loop may append to it) -/
def Itl (K : PySem.W.Frag) (a : Addr) : It :=
  ⟨fun i H => ∃ xs x, SqL K H a xs ∧ xs[i]? = some x, fun i H x H' => H' = H ∧ ∀ xs, SqL K H a xs → xs[i]? = some x, fun i H => ∃ xs, SqL K H a xs ∧ xs.length ≤ i⟩
def Itt (K : PySem.W.Frag) (a : Addr) : It :=
  ⟨fun i H => ∃ xs x, SqT K H a xs ∧ xs[i]? = some x, fun i H x H' => H' = H ∧ ∀ xs, SqT K H a xs → xs[i]? = some x, fun i H => ∃ xs, SqT K H a xs ∧ xs.length ≤ i⟩
/-- lo, lo + 1, .. (n of them) -/
def Itr (lo : Int) (n : Nat) : It := ⟨fun i _ => i < n, fun i H x H' => H' = H ∧ x = .int (lo + i), fun i _ => n ≤ i⟩
theorem turn_list {P : Program} {w : World} {K : PySem.W.Frag} {tg : Expr} (a it : Addr) : Turn P w K tg (Itl K a) [it] it (fun i h => h.IsListIter it a i) where
  mem := by simp
  obj := fun i h st b hb => by
    have e : b = it := by simpa using hb
    subst e
    obtain ⟨o, e, c, d⟩ := st
    exact ⟨o, e, fun v z => by rw [d] at z; cases z⟩
  keep := fun i h h' st k => st.at fun o e => k it (by simp) o e
  item := by
    intro X hP hw hK hc i pins s σ H E I hf st hg
    subst hP hw hK
    obtain ⟨xs, x, hq, hx⟩ := hg
    obtain ⟨its, rv, p, hz⟩ := I.list hq
    obtain ⟨u, hu, ru⟩ := rv.get hx
    obtain ⟨f0, f1, f2, f3, f4, f5⟩ := hf it (by simp)
    refine wpAny_pyNext_list_item st p.isList (x := u) (by simpa using hu) fun h' st' sb => ?_
    have I1 : Inv X pins σ H { s with heap := h' } := I.turned (t' := s.toks) (fun b o hb e => (sb.2 b hb).trans e) f0 f1 f3 f4 f5
    obtain ⟨o, e, c, d⟩ := id st'
    exact ⟨u, rfl, go_of (s := { s with heap := h' }) e c d (by decide) ⟨x, H, I1, ru, ⟨rfl, fun ys hy => by rw [I.list_inj hy hq]; exact hx⟩, st', fun b hb => (hf b hb).1⟩⟩
  done := by
    intro X hP hw hK hc i pins s σ H E I hf st hg
    subst hP hw hK
    obtain ⟨xs, hq, hx⟩ := hg
    obtain ⟨its, rv, p, hz⟩ := I.list hq
    obtain ⟨f0, f1, f2, f3, f4, f5⟩ := hf it (by simp)
    have hl := rv.length
    exact wpAny_pyNext_list_end (I.ok.hd hc) st p.isList (by simp; omega) fun h' eb => ⟨rfl, I.turned (t' := s.toks) (fun b o hb e => eb b o hb e) f0 f1 f3 f4 f5⟩
  self := fun _ _ _ _ _ st h => wpAny_pyIter_listiter st h
theorem turn_tuple {P : Program} {w : World} {K : PySem.W.Frag} {tg : Expr} (a it : Addr) : Turn P w K tg (Itt K a) [it] it (fun i h => h.IsTupleIter it a i) where
  mem := by simp
  obj := fun i h st b hb => by
    have e : b = it := by simpa using hb
    subst e
    obtain ⟨o, e, c, d⟩ := st
    exact ⟨o, e, fun v z => by rw [d] at z; cases z⟩
  keep := fun i h h' st k => st.at fun o e => k it (by simp) o e
  item := by
    intro X hP hw hK hc i pins s σ H E I hf st hg
    subst hP hw hK
    obtain ⟨xs, x, hq, hx⟩ := hg
    obtain ⟨its, rv, p, hz⟩ := I.tuple hq
    obtain ⟨u, hu, ru⟩ := rv.get hx
    obtain ⟨f0, f1, f2, f3, f4, f5⟩ := hf it (by simp)
    refine wpAny_pyNext_tuple_item st (show s.heap.IsTuple a its.toArray from p) (x := u) (by simpa using hu) fun h' st' sb => ?_
    have I1 : Inv X pins σ H { s with heap := h' } := I.turned (t' := s.toks) (fun b o hb e => (sb.2 b hb).trans e) f0 f1 f3 f4 f5
    obtain ⟨o, e, c, d⟩ := id st'
    exact ⟨u, rfl, go_of (s := { s with heap := h' }) e c d (by decide) ⟨x, H, I1, ru, ⟨rfl, fun ys hy => by rw [I.tuple_inj hy hq]; exact hx⟩, st', fun b hb => (hf b hb).1⟩⟩
  done := by
    intro X hP hw hK hc i pins s σ H E I hf st hg
    subst hP hw hK
    obtain ⟨xs, hq, hx⟩ := hg
    obtain ⟨its, rv, p, hz⟩ := I.tuple hq
    obtain ⟨f0, f1, f2, f3, f4, f5⟩ := hf it (by simp)
    have hl := rv.length
    exact wpAny_pyNext_tuple_end (I.ok.hd hc) st (show s.heap.IsTuple a its.toArray from p) (by simp; omega) fun h' eb => ⟨rfl, I.turned (t' := s.toks) (fun b o hb e => eb b o hb e) f0 f1 f3 f4 f5⟩
  self := fun _ _ _ _ _ st h => wpAny_pyIter_tupleiter st h
theorem turn_range {P : Program} {w : World} {K : PySem.W.Frag} {tg : Expr} (it : Addr) (lo : Int) (n : Nat) : Turn P w K tg (Itr lo n) [it] it (fun i h => IsRangeIter h it (lo + (i : Nat) * 1) ((n : Int) - (i : Nat)) 1) where
  mem := by simp
  obj := fun i h st b hb => by
    have e : b = it := by simpa using hb
    subst e
    exact ⟨_, st, fun v z => by
      have z' : Data.fields _ = Data.cell v := z
      cases z'⟩
  keep := fun i h h' st k => k it (by simp) _ st
  item := by
    intro X hP hw hK hc i pins s σ H E I hf st hg
    subst hP hw hK
    obtain ⟨f0, f1, f2, f3, f4, f5⟩ := hf it (by simp)
    have W := Walks.range (prog := X.prog) (w := X.w) (I.ok.hd hc) it lo 1 n
    refine W.item i s _ _ hg st fun v h' tk hv st' kk => ?_
    obtain ⟨t, rfl⟩ := hv
    have I1 : Inv X pins σ H { s with heap := h', toks := tk } := I.turned (fun b o hb e => kk b o (by simpa using hb) e) f0 f1 f3 f4 f5
    refine ⟨_, rfl, go_of (s := { s with heap := h', toks := tk }) (n := "range_iterator") st' rfl rfl (by decide) ⟨.int (lo + i), H, I1, ⟨t, ?_⟩, ⟨rfl, rfl⟩, st', fun b hb => (hf b hb).1⟩⟩
    rw [Int.mul_one]
  done := by
    intro X hP hw hK hc i pins s σ H E I hf st hg
    subst hP hw hK
    obtain ⟨f0, f1, f2, f3, f4, f5⟩ := hf it (by simp)
    exact wpAny_pyNext_range_end (I.ok.hd hc) st (by have : n ≤ i := hg; omega) fun h' eb => ⟨rfl, I.turned (t' := s.toks) (fun b o hb e => eb b o hb e) f0 f1 f3 f4 f5⟩
  self := fun _ _ _ _ _ st h => wpAny_pyIter_rangeiter st h
end L2

namespace L2
open PySem PySem.Spec PyProof.Rows
section
variable {X : Cx} {tg : Expr}
def iList (K : PySem.W.Frag) (tl : TE) : TI := fun σ H R => tl σ H fun x H1 => ∃ a, x = .ref a ∧ (∃ xs, SqL K H1 a xs) ∧ R (Itl K a) H1
def iTup (K : PySem.W.Frag) (tl : TE) : TI := fun σ H R => tl σ H fun x H1 => ∃ a, x = .ref a ∧ (∃ xs, SqT K H1 a xs) ∧ R (Itt K a) H1
theorem pi_list {l : Expr} {tl : TE} (hl : PE X l tl) : PI X tg l (iList X.K tl) := by
  intro pins s σ H R I h
  refine thn (hl pins s σ H _ I h) fun v s1 ⟨x, H1, I1, r1, q1⟩ => ?_
  obtain ⟨a, e, ⟨xs, hq⟩, q⟩ := q1
  subst e
  cases r1
  obtain ⟨its, rv, p, hz⟩ := I1.list hq
  refine wpAny_pyIter_list p.isList ?_
  refine ⟨s1.heap.objs.size, [s1.heap.objs.size], _, _, H1, rfl, I1.kept (t' := s1.toks) fun b o e => Heap.get?_push_of_some _ e, turn_list a _, ⟨_, Heap.get?_push_size _ rfl, rfl, rfl⟩, fun b hb => ?_, q⟩
  have e : b = s1.heap.objs.size := by simpa using hb
  subst e
  exact I1.fpOk (Nat.le_refl _) (I1.hok.fresh (Nat.le_refl _))
theorem pi_tup {l : Expr} {tl : TE} (hl : PE X l tl) : PI X tg l (iTup X.K tl) := by
  intro pins s σ H R I h
  refine thn (hl pins s σ H _ I h) fun v s1 ⟨x, H1, I1, r1, q1⟩ => ?_
  obtain ⟨a, e, ⟨xs, hq⟩, q⟩ := q1
  subst e
  cases r1
  obtain ⟨its, rv, p, hz⟩ := I1.tuple hq
  refine wpAny_pyIter_tuple (show s1.heap.IsTuple a its.toArray from p) ?_
  refine ⟨s1.heap.objs.size, [s1.heap.objs.size], _, _, H1, rfl, I1.kept (t' := s1.toks) fun b o e => Heap.get?_push_of_some _ e, turn_tuple a _, ⟨_, Heap.get?_push_size _ rfl, rfl, rfl⟩, fun b hb => ?_, q⟩
  have e : b = s1.heap.objs.size := by simpa using hb
  subst e
  exact I1.fpOk (Nat.le_refl _) (I1.hok.fresh (Nat.le_refl _))
/-- a range object just made, walked -/
theorem range_it {pins : List (Addr × Obj)} {σ : St} {H : Hp} {s : Shared} {R : It → Hp → Prop} {E : Value → Shared → Prop} {lo hi : Int} {t u v : Tok} {tk : Nat} (I : Inv X pins σ H s) (h1 : -(2 ^ 62) ≤ lo) (h2 : lo < 2 ^ 62) (h3 : -(2 ^ 62) ≤ hi) (h4 : hi < 2 ^ 62)
    (q : R (Itr lo (hi - lo).toNat) H) : wpAny (model X.prog X.w) X.A (pyIter (.ref s.heap.objs.size)) (PIE X pins σ tg R) E { s with heap := s.heap.push { cls := .type "range", data := .fields #[.int lo t, .int hi u, .int 1 v] }, toks := tk } := by
  refine wpAny_pyIter_range (IsRange.new ..) (small_one h1 h2 h3 h4) ?_
  have I1 : Inv X pins σ H { s with heap := s.heap.push { cls := .type "range", data := .fields #[.int lo t, .int hi u, .int 1 v] }, toks := tk } := I.kept fun b o e => Heap.get?_push_of_some _ e
  refine ⟨(s.heap.push { cls := .type "range", data := .fields #[.int lo t, .int hi u, .int 1 v] }).objs.size, [(s.heap.push { cls := .type "range", data := .fields #[.int lo t, .int hi u, .int 1 v] }).objs.size], _, _, H, rfl,
    I1.kept (t' := tk) fun b o e => Heap.get?_push_of_some _ e, turn_range _ lo (hi - lo).toNat, ?_, fun b hb => ?_, q⟩
  · have e1 : lo + ((0 : Nat) : Int) * 1 = lo := by simp
    have e2 : (((hi - lo).toNat : Nat) : Int) - ((0 : Nat) : Int) = Builtin.Range.rangeSize lo hi 1 := by rw [rangeSize_one]; split <;> omega
    show IsRangeIter _ _ (lo + ((0 : Nat) : Int) * 1) ((((hi - lo).toNat : Nat) : Int) - ((0 : Nat) : Int)) 1
    rw [e1, e2]
    exact Heap.get?_push_size _ rfl
  · have e : b = (s.heap.push { cls := .type "range", data := .fields #[.int lo t, .int hi u, .int 1 v] }).objs.size := by simpa using hb
    subst e
    exact I1.fpOk (Nat.le_refl _) (I1.hok.fresh (Nat.le_refl _))
def iRng1 (ta : TA) : TI := fun σ H R => ta σ H fun vs H1 => ∃ j : Int, vs = [.int j] ∧ -(2 ^ 62) ≤ j ∧ j < 2 ^ 62 ∧ R (Itr 0 j.toNat) H1
def iRng2 (ta : TA) : TI := fun σ H R => ta σ H fun vs H1 => ∃ i j : Int, vs = [.int i, .int j] ∧ (-(2 ^ 62) ≤ i ∧ i < 2 ^ 62 ∧ -(2 ^ 62) ≤ j ∧ j < 2 ^ 62) ∧ R (Itr i (j - i).toNat) H1
theorem pi_range1 {a : Expr} {ta : TA} {p pos : Pos} (hg : Gl X "range") (hm : X.mg "range" = none) (ha : PA X [a] ta) (hs : starEach [a] X.env = [(false, eval a X.env)] := by rfl) : PI X tg (.Call (.Name "range" p) [a] [] pos) (iRng1 ta) := by
  intro pins s σ H R I h
  refine Call_ (ld_blt I hg hm boot_range (PyProof.Rows.callWith_type1 (thn (ha pos pins s σ H _ I h) fun us s1 ⟨vs, H1, I1, r1, q1⟩ => ?_) hs rfl))
  obtain ⟨j, e, q1, q2, q⟩ := q1
  subst e
  cases r1 with
  | cons r rr =>
    cases rr
    obtain ⟨t, rfl⟩ := r
    exact call_range_1 (range_it I1 (by omega) (by omega) q1 q2 (by simpa using q))
theorem pi_range2 {a b : Expr} {ta : TA} {p pos : Pos} (hg : Gl X "range") (hm : X.mg "range" = none) (ha : PA X [a, b] ta) (hs : starEach [a, b] X.env = [(false, eval a X.env), (false, eval b X.env)] := by rfl) (hs2 : starEach [b] X.env = [(false, eval b X.env)] := by rfl) :
    PI X tg (.Call (.Name "range" p) [a, b] [] pos) (iRng2 ta) := by
  intro pins s σ H R I h
  refine Call_ (ld_blt I hg hm boot_range (PyProof.Rows.callWith_type1 (thn (ha pos pins s σ H _ I h) fun us s1 ⟨vs, H1, I1, r1, q1⟩ => ?_) (by rw [hs, hs2]) (by rw [hs2]; rfl)))
  obtain ⟨i, j, e, ⟨q1, q2, q3, q4⟩, q⟩ := q1
  subst e
  cases r1 with
  | cons r rr =>
    cases rr with
    | cons r' rr =>
      cases rr
      obtain ⟨t, rfl⟩ := r
      obtain ⟨t', rfl⟩ := r'
      exact call_range_2 (range_it I1 q1 q2 q3 q4 q)

/-! ### for -/
/-- W: the invariant by the turn and a measure; N: what the body is to reach -/
def tFor (wi : TI) (g : TG) (tb : TS) : TS := fun D σ H => wi σ H fun J H1 => ∃ W : Nat → Nat → St → Hp → Prop, (∃ m, W 0 m σ H1) ∧ ∀ i m σ H, W i m σ H →
  (J.stop i H ∧ D.nx σ H) ∨ (J.go i H ∧ ∃ N : St → Hp → Prop, (∀ σ' H', N σ' H' → ∃ m', m' < m ∧ W (i + 1) m' σ' H') ∧ ∀ x H', J.yld i H x H' → g x σ H' fun σ2 H2 => tb { D with nx := N, ct := N, bk := D.nx } σ2 H2)
/-- the records at fp as they stand -/
def pinsAt (fp : List Addr) (h : Heap) : List (Addr × Obj) := fp.filterMap fun b => (h.get? b).map fun o => (b, o)
theorem mem_pinsAt {fp : List Addr} {h : Heap} {b : Addr} {o : Obj} (hb : b ∈ fp) (e : h.get? b = some o) : (b, o) ∈ pinsAt fp h := List.mem_filterMap.mpr ⟨b, hb, by rw [e]; rfl⟩
theorem of_pinsAt {fp : List Addr} {h : Heap} {p : Addr × Obj} (hp : p ∈ pinsAt fp h) : p.1 ∈ fp ∧ h.get? p.1 = some p.2 := by
  obtain ⟨b, hb, e⟩ := List.mem_filterMap.mp hp
  cases q : h.get? b with
  | none => rw [q] at e; cases e
  | some o =>
    rw [q] at e
    have e' : (b, o) = p := Option.some.inj e
    subst e'
    exact ⟨hb, q⟩
theorem Inv.pinned {pins : List (Addr × Obj)} {σ : St} {H : Hp} {s : Shared} {fp : List Addr} (I : Inv X pins σ H s) (hf : ∀ b ∈ fp, FpOk X pins H b) (ho : ∀ b ∈ fp, ∃ o, s.heap.get? b = some o ∧ ∀ v, o.data ≠ .cell v) : Inv X (pins ++ pinsAt fp s.heap) σ H s :=
  I.pins_of fun p hp => (List.mem_append.mp hp).elim (fun z => I.pin p (List.mem_append_right _ z)) fun z => by
    obtain ⟨hb, e⟩ := of_pinsAt z
    obtain ⟨f0, f1, f2, _⟩ := hf p.1 hb
    obtain ⟨o, e', d⟩ := ho p.1 hb
    rw [e] at e'; cases e'
    exact ⟨e, f0, f1, f2, d⟩
theorem Inv.unpinned {pins pl : List (Addr × Obj)} {σ : St} {H : Hp} {s : Shared} (I : Inv X (pins ++ pl) σ H s) : Inv X pins σ H s := I.pins_of fun p hp => I.pin p (List.mem_append_right _ (List.mem_append_left _ hp))
theorem ps_for {iter : Expr} {body : List Stmt} {wi : TI} {g : TG} {tb : TS} {pos : Pos} (hp : PassesOwn (model X.prog X.w) X.A X.env X.xe) (hc : X.calm = true) (hi : PI X tg iter wi) (hg : PG X tg g) (hb : PSs X body tb)
    (hs : ∀ x, foldedSetIterable iter X.env x = pure x := by intro _; rfl) : PS X (.For tg iter body [] pos) (tFor wi g tb) := by
  intro pins s σ H D I h
  refine wpAny_For (thn (hi pins s σ H _ I h) fun v s1 h1 => thn h1 fun itv s2 h2 => ?_) hs
  obtain ⟨it, fp, tn, J, H2, e, I2, T, st2, f2, W, ⟨m0, w0⟩, turn⟩ := h2
  subst e
  -- what stays true of the iterator's objects through the loop
  have stat : ∀ {H' : Hp}, (∀ b ∈ fp, H' b = none) → ∀ b ∈ fp, FpOk X pins H' b := fun hn b hb => ⟨hn b hb, (f2 b hb).2⟩
  refine codeAny_forLoop_any (fun n s' => ∃ i σ' H', Inv X pins σ' H' s' ∧ tn i s'.heap ∧ (∀ b ∈ fp, H' b = none) ∧ W i n σ' H') ?_ m0 ⟨0, σ, H2, I2, st2, fun b hb => (f2 b hb).1, w0⟩
  rintro n s3 ⟨i, σ3, H3, I3, st3, fr3, w3⟩
  rcases turn i n σ3 H3 w3 with ⟨stop, qn⟩ | ⟨go, N, hN, step⟩
  · refine wpAny_passesOwn hp (thn (T.done X rfl rfl rfl hc i pins s3 σ3 H3 X.xe I3 (stat fr3) st3 stop) fun r s4 ⟨hr, I4⟩ => ?_)
    subst hr
    exact wpAny_execs_nil ⟨σ3, H3, I4, qn⟩
  · refine wpAny_passesOwn hp (thn (T.item X rfl rfl rfl hc i pins s3 σ3 H3 X.xe I3 (stat fr3) st3 go) fun r s4 ⟨u, hr, h4⟩ => ?_)
    subst hr
    refine wpAny_passesOwn hp (thn h4 fun _ s5 ⟨x, H5, I5, r5, y5, st5, fr5⟩ => ?_)
    have I5' := I5.pinned (stat fr5) (T.obj _ _ st5)
    refine wpAny_passesOwn hp (thn (hg _ s5 σ3 H5 x u _ I5' r5 (step x H5 y5)) fun _ s6 ⟨σ6, H6, I6, q6⟩ => ?_)
    refine wpAny_passesOwn hp (thn (hb _ s6 σ6 H6 _ I6 q6) fun f s7 q7 => ?_)
    have again : ∀ {σ7 : St} {H7 : Hp}, Inv X (pins ++ pinsAt fp s5.heap) σ7 H7 s7 → N σ7 H7 → ∃ m, m < n ∧ ∃ i σ' H', Inv X pins σ' H' s7 ∧ tn i s7.heap ∧ (∀ b ∈ fp, H' b = none) ∧ W i m σ' H' := fun {σ7 H7} I7 n7 => by
      obtain ⟨m', hm, w7⟩ := hN σ7 H7 n7
      refine ⟨m', hm, i + 1, σ7, H7, I7.unpinned, T.keep _ _ _ st5 fun b hb o e => (I7.pin (b, o) (List.mem_append_right _ (List.mem_append_right _ (mem_pinsAt hb e)))).1, fun b hb => ?_, w7⟩
      obtain ⟨o, e, d⟩ := T.obj _ _ st5 b hb
      exact (I7.pin (b, o) (List.mem_append_right _ (List.mem_append_right _ (mem_pinsAt hb e)))).2.1
    cases f with
    | next => obtain ⟨σ7, H7, I7, n7⟩ := q7; exact again I7 n7
    | cont => obtain ⟨σ7, H7, I7, n7⟩ := q7; exact again I7 n7
    | brk => obtain ⟨σ7, H7, I7, q7⟩ := q7; exact ⟨σ7, H7, I7.unpinned, q7⟩
    | ret v => obtain ⟨x7, σ7, H7, I7, r7, q7⟩ := q7; exact ⟨x7, σ7, H7, I7.unpinned, r7, q7⟩
end

/-! ### the forms one uses -/
/-- over a list that the body leaves as it is -/
theorem for_list {K : PySem.W.Frag} {a : Addr} {xs : List V} {g : TG} {tb : TS} {D : Ends} {σ : St} {H : Hp} (Pv : Nat → St → Hp → Prop) (h0 : Pv 0 σ H) (hl : ∀ i σ H, i ≤ xs.length → Pv i σ H → SqL K H a xs)
    (hs : ∀ i x σ H, xs[i]? = some x → Pv i σ H → g x σ H fun σ2 H2 => tb { D with nx := Pv (i + 1), ct := Pv (i + 1), bk := D.nx } σ2 H2) (hd : ∀ σ H, Pv xs.length σ H → D.nx σ H) :
    ∃ W : Nat → Nat → St → Hp → Prop, (∃ m, W 0 m σ H) ∧ ∀ i m σ H, W i m σ H →
      ((Itl K a).stop i H ∧ D.nx σ H) ∨ ((Itl K a).go i H ∧ ∃ N : St → Hp → Prop, (∀ σ' H', N σ' H' → ∃ m', m' < m ∧ W (i + 1) m' σ' H') ∧ ∀ x H', (Itl K a).yld i H x H' → g x σ H' fun σ2 H2 => tb { D with nx := N, ct := N, bk := D.nx } σ2 H2) := by
  refine ⟨fun i m σ H => m = xs.length - i ∧ i ≤ xs.length ∧ Pv i σ H, ⟨xs.length, by simp, Nat.zero_le _, h0⟩, ?_⟩
  rintro i m σ H ⟨rfl, hi, p⟩
  have q := hl i σ H hi p
  by_cases hlt : i < xs.length
  · refine .inr ⟨⟨xs, xs[i], q, by simp [hlt]⟩, Pv (i + 1), fun σ' H' p' => ⟨xs.length - (i + 1), by omega, rfl, hlt, p'⟩, fun x H' y => ?_⟩
    obtain ⟨e, y⟩ := y
    subst e
    exact hs i x σ _ (y xs q) p
  · have e : i = xs.length := by omega
    subst e
    exact .inl ⟨⟨xs, q, Nat.le_refl _⟩, hd σ H p⟩
theorem for_tup {K : PySem.W.Frag} {a : Addr} {xs : List V} {g : TG} {tb : TS} {D : Ends} {σ : St} {H : Hp} (Pv : Nat → St → Hp → Prop) (h0 : Pv 0 σ H) (hl : ∀ i σ H, i ≤ xs.length → Pv i σ H → SqT K H a xs)
    (hs : ∀ i x σ H, xs[i]? = some x → Pv i σ H → g x σ H fun σ2 H2 => tb { D with nx := Pv (i + 1), ct := Pv (i + 1), bk := D.nx } σ2 H2) (hd : ∀ σ H, Pv xs.length σ H → D.nx σ H) :
    ∃ W : Nat → Nat → St → Hp → Prop, (∃ m, W 0 m σ H) ∧ ∀ i m σ H, W i m σ H →
      ((Itt K a).stop i H ∧ D.nx σ H) ∨ ((Itt K a).go i H ∧ ∃ N : St → Hp → Prop, (∀ σ' H', N σ' H' → ∃ m', m' < m ∧ W (i + 1) m' σ' H') ∧ ∀ x H', (Itt K a).yld i H x H' → g x σ H' fun σ2 H2 => tb { D with nx := N, ct := N, bk := D.nx } σ2 H2) := by
  refine ⟨fun i m σ H => m = xs.length - i ∧ i ≤ xs.length ∧ Pv i σ H, ⟨xs.length, by simp, Nat.zero_le _, h0⟩, ?_⟩
  rintro i m σ H ⟨rfl, hi, p⟩
  have q := hl i σ H hi p
  by_cases hlt : i < xs.length
  · refine .inr ⟨⟨xs, xs[i], q, by simp [hlt]⟩, Pv (i + 1), fun σ' H' p' => ⟨xs.length - (i + 1), by omega, rfl, hlt, p'⟩, fun x H' y => ?_⟩
    obtain ⟨e, y⟩ := y
    subst e
    exact hs i x σ _ (y xs q) p
  · have e : i = xs.length := by omega
    subst e
    exact .inl ⟨⟨xs, q, Nat.le_refl _⟩, hd σ H p⟩
theorem for_range {lo : Int} {n : Nat} {g : TG} {tb : TS} {D : Ends} {σ : St} {H : Hp} (Pv : Nat → St → Hp → Prop) (h0 : Pv 0 σ H)
    (hs : ∀ i σ H, i < n → Pv i σ H → g (.int (lo + i)) σ H fun σ2 H2 => tb { D with nx := Pv (i + 1), ct := Pv (i + 1), bk := D.nx } σ2 H2) (hd : ∀ σ H, Pv n σ H → D.nx σ H) :
    ∃ W : Nat → Nat → St → Hp → Prop, (∃ m, W 0 m σ H) ∧ ∀ i m σ H, W i m σ H →
      ((Itr lo n).stop i H ∧ D.nx σ H) ∨ ((Itr lo n).go i H ∧ ∃ N : St → Hp → Prop, (∀ σ' H', N σ' H' → ∃ m', m' < m ∧ W (i + 1) m' σ' H') ∧ ∀ x H', (Itr lo n).yld i H x H' → g x σ H' fun σ2 H2 => tb { D with nx := N, ct := N, bk := D.nx } σ2 H2) := by
  refine ⟨fun i m σ H => m = n - i ∧ i ≤ n ∧ Pv i σ H, ⟨n, by simp, Nat.zero_le _, h0⟩, ?_⟩
  rintro i m σ H ⟨rfl, hi, p⟩
  by_cases hlt : i < n
  · refine .inr ⟨hlt, Pv (i + 1), fun σ' H' p' => ⟨n - (i + 1), by omega, rfl, hlt, p'⟩, fun x H' y => ?_⟩
    obtain ⟨e, y⟩ := y
    subst e y
    exact hs i σ _ hlt p
  · have e : i = n := by omega
    subst e
    exact .inl ⟨Nat.le_refl _, hd σ H p⟩
/-- while, by a word and a measure of the state -/
theorem while_by {c : TT} {tb : TS} {D : Ends} {σ : St} {H : Hp} (Pv : St → Hp → Prop) (μ : St → Hp → Nat) (h0 : Pv σ H)
    (hs : ∀ σ H, Pv σ H → c σ H fun b H1 => if b = true then tb { D with nx := fun σ' H' => Pv σ' H' ∧ μ σ' H' < μ σ H, ct := fun σ' H' => Pv σ' H' ∧ μ σ' H' < μ σ H, bk := D.nx } σ H1 else D.nx σ H1)
    (mono : ∀ σ H Q Q', (∀ b H1, Q b H1 → Q' b H1) → c σ H Q → c σ H Q') : tWhile c tb D σ H := by
  refine ⟨fun m σ H => m = μ σ H ∧ Pv σ H, ⟨_, rfl, h0⟩, ?_⟩
  rintro m σ H ⟨rfl, p⟩
  refine mono σ H _ _ (fun b H1 q => ?_) (hs σ H p)
  cases b with
  | true => exact ⟨_, fun σ' H' ⟨p', l⟩ => ⟨_, l, rfl, p'⟩, q⟩
  | false => exact q
end L2

namespace L2
open PySem PySem.Spec PyProof.Rows

abbrev R2 := V → V → Hp → VK → Prop
/-- a two-place operation on values: f is binaryOp op, inplaceOp op or compareOp op -/
def OpR (X : Cx) (f : Value → Value → Sem Value) (r : R2) : Prop :=
  ∀ (pins : List (Addr × Obj)) (s : Shared) (σ : St) (H : Hp) (x y : V) (v u : Value) (Q : VK), Inv X pins σ H s → RelV x v → RelV y u → r x y H Q →
    wpAny (model X.prog X.w) X.A (f v u) (EP X pins σ Q) X.xe s
/-- a one-place operation -/
def UnR (X : Cx) (f : Value → Sem Value) (r : V → Hp → VK → Prop) : Prop :=
  ∀ (pins : List (Addr × Obj)) (s : Shared) (σ : St) (H : Hp) (x : V) (v : Value) (Q : VK), Inv X pins σ H s → RelV x v → r x H Q →
    wpAny (model X.prog X.w) X.A (f v) (EP X pins σ Q) X.xe s
/-- a call of a value that is known (a builtin, a type) with values -/
def CallR (X : Cx) (f : Value) (r : List V → Hp → VK → Prop) : Prop :=
  ∀ (pins : List (Addr × Obj)) (s : Shared) (σ : St) (H : Hp) (xs : List V) (us : List Value) (Q : VK), Inv X pins σ H s → Vals xs us → r xs H Q →
    wpAny (model X.prog X.w) X.A (call f us) (EP X pins σ Q) X.xe s
/-- a value's truth -/
def TruR (X : Cx) (r : V → Hp → (Bool → Hp → Prop) → Prop) : Prop :=
  ∀ (pins : List (Addr × Obj)) (s : Shared) (σ : St) (H : Hp) (x : V) (v : Value) (Q : Bool → Hp → Prop), Inv X pins σ H s → RelV x v → r x H Q →
    wpAny (model X.prog X.w) X.A (truthy v) (TP X pins σ Q) X.xe s

def tOp (r : R2) (ta tb : TE) : TE := fun σ H Q => ta σ H fun x H1 => tb σ H1 fun y H2 => r x y H2 Q
def tUn (r : V → Hp → VK → Prop) (ta : TE) : TE := fun σ H Q => ta σ H fun x H1 => r x H1 Q
/-- ints in, under C, and a value out -/
def rI (C : Int → Int → Prop) (g : Int → Int → V) : R2 := fun x y H Q => ∃ i j, x = .int i ∧ y = .int j ∧ C i j ∧ Q (g i j) H
def rI0 (g : Int → Int → V) : R2 := fun x y H Q => ∃ i j, x = .int i ∧ y = .int j ∧ Q (g i j) H
def rU (g : Int → V) : V → Hp → VK → Prop := fun x H Q => ∃ i, x = .int i ∧ Q (g i) H

section
variable {X : Cx} {a b c : Expr} {ta tb tc : TE} {pos : Pos}

theorem binT (ha : PE X a ta) (hb : PE X b tb) {pins : List (Addr × Obj)} {s : Shared} {σ : St} {H : Hp} {R : V → V → Hp → Prop} (I : Inv X pins σ H s)
    (h : ta σ H fun x H1 => tb σ H1 fun y H2 => R x y H2) {Q : Value → Shared → Prop} {f : Value → Value → Sem Value}
    (hf : ∀ v u s2 x y H2, Inv X pins σ H2 s2 → RelV x v → RelV y u → R x y H2 → wpAny (model X.prog X.w) X.A (f v u) Q X.xe s2) :
    wpAny (model X.prog X.w) X.A (eval a X.env) (fun v s₁ => wpAny (model X.prog X.w) X.A (eval b X.env) (fun u s₂ => wpAny (model X.prog X.w) X.A (f v u) Q X.xe s₂) X.xe s₁) X.xe s := by
  refine thn (ha pins s σ H _ I h) fun v s1 ⟨x, H1, I1, r1, q1⟩ => ?_
  refine thn (hb pins s1 σ H1 _ I1 q1) fun u s2 ⟨y, H2, I2, r2, q2⟩ => ?_
  exact hf v u s2 x y H2 I2 r1 r2 q2

theorem pe_op {op : Operator} {r : R2} (ho : OpR X (binaryOp op) r) (ha : PE X a ta) (hb : PE X b tb) : PE X (.BinOp a op b pos) (tOp r ta tb) := by
  intro pins s σ H Q I h
  exact wpAny_BinOp (binT ha hb I h fun v u s2 x y H2 I2 rx ry q => ho pins s2 σ H2 x y v u Q I2 rx ry q)
theorem pe_un {op : UnaryOp} {r : V → Hp → VK → Prop} (ho : UnR X (unaryOp op) r) (ha : PE X a ta) : PE X (.UnaryOp op a pos) (tUn r ta) := by
  intro pins s σ H Q I h
  exact UnaryOp_ (thn (ha pins s σ H _ I h) fun v s1 ⟨x, H1, I1, r1, q1⟩ => ho pins s1 σ H1 x v Q I1 r1 q1)
/-- a op= e at a name: the name's slot i -/
theorem augR {op : Operator} {r : R2} (ho : OpR X (inplaceOp op) r) {pins : List (Addr × Obj)} {s : Shared} {σ : St} {H : Hp} {x y : V} {v u : Value} {Q : VK} (I : Inv X pins σ H s)
    (rx : RelV x v) (ry : RelV y u) (q : r x y H Q) : wpAny (model X.prog X.w) X.A (inplaceOp op v u) (EP X pins σ Q) X.xe s := ho pins s σ H x y v u Q I rx ry q

/-! ### ints -/
theorem opI {f : Value → Value → Sem Value} {C : Int → Int → Prop} {g : Int → Int → Int}
    (rule : ∀ (i j : Int) (t u : Tok) (s : Shared) (Q : Value → Shared → Prop) (E : Value → Shared → Prop), C i j → Q (.int (g i j) s.toks) { s with toks := s.toks + 1 } → wpAny (model X.prog X.w) X.A (f (.int i t) (.int j u)) Q E s) :
    OpR X f (rI C fun i j => .int (g i j)) := by
  intro pins s σ H x y v u Q I rx ry h
  obtain ⟨i, j, rfl, rfl, hc, q⟩ := h
  obtain ⟨t, rfl⟩ := rx
  obtain ⟨t', rfl⟩ := ry
  exact rule i j t t' s _ _ hc ⟨.int (g i j), H, I.tok _, ⟨_, rfl⟩, q⟩
theorem opI0 {f : Value → Value → Sem Value} {g : Int → Int → Int}
    (rule : ∀ (i j : Int) (t u : Tok) (s : Shared) (Q : Value → Shared → Prop) (E : Value → Shared → Prop), Q (.int (g i j) s.toks) { s with toks := s.toks + 1 } → wpAny (model X.prog X.w) X.A (f (.int i t) (.int j u)) Q E s) :
    OpR X f (rI0 fun i j => .int (g i j)) := by
  intro pins s σ H x y v u Q I rx ry h
  obtain ⟨i, j, rfl, rfl, q⟩ := h
  obtain ⟨t, rfl⟩ := rx
  obtain ⟨t', rfl⟩ := ry
  exact rule i j t t' s _ _ ⟨.int (g i j), H, I.tok _, ⟨_, rfl⟩, q⟩
theorem opB0 {f : Value → Value → Sem Value} {g : Int → Int → Bool}
    (rule : ∀ (i j : Int) (t u : Tok) (s : Shared) (Q : Value → Shared → Prop) (E : Value → Shared → Prop), Q (.bool (g i j)) s → wpAny (model X.prog X.w) X.A (f (.int i t) (.int j u)) Q E s) :
    OpR X f (rI0 fun i j => .bl (g i j)) := by
  intro pins s σ H x y v u Q I rx ry h
  obtain ⟨i, j, rfl, rfl, q⟩ := h
  obtain ⟨t, rfl⟩ := rx
  obtain ⟨t', rfl⟩ := ry
  exact rule i j t t' s _ _ ⟨.bl (g i j), H, I, rfl, q⟩

def CDiv (i j : Int) : Prop := 0 < j ∧ j < 1073741824
def CDivN (i j : Int) : Prop := j ≠ 0 ∧ j.natAbs < 1073741824
def CPow (i j : Int) : Prop := 0 ≤ j ∧ j ≤ 1000000 ∧ i.natAbs < 2 ^ 64
def CMul (i j : Int) : Prop := (-(2 ^ 64) < i ∧ i < 2 ^ 64) ∨ (-(2 ^ 64) < j ∧ j < 2 ^ 64)
theorem CMul.ok {i j : Int} (h : CMul i j) : IntMulOk i j := by
  rcases h with ⟨h1, h2⟩ | ⟨h1, h2⟩
  · exact .of_left (intBits_le_64 h1 h2)
  · exact .of_right (intBits_le_64 h1 h2)
theorem two_pow_nn (k : Nat) : (0 : Int) ≤ 2 ^ k := by
  rw [two_pow_cast]
  exact Int.natCast_nonneg _

theorem op_add : OpR X (binaryOp .Add) (rI0 fun i j => .int (i + j)) := opI0 fun _ _ _ _ _ _ _ q => add_int q
theorem op_sub : OpR X (binaryOp .Sub) (rI0 fun i j => .int (i - j)) := opI0 fun _ _ _ _ _ _ _ q => sub_int q
theorem op_mul : OpR X (binaryOp .Mult) (rI CMul fun i j => .int (i * j)) := opI fun _ _ _ _ _ _ _ hc q => mul_int q hc.ok
/-- // by a positive divisor -/
theorem op_fdiv : OpR X (binaryOp .FloorDiv) (rI CDiv fun i j => .int (i / j)) := opI fun i j _ _ _ _ _ hc q => by
  have h1 : (0 : Int) < j := hc.1
  have h2 : j < 1073741824 := hc.2
  exact floordiv_int (by omega) (by rw [Int.fdiv_eq_ediv_of_nonneg i (by omega)]; exact q) (.inl (PyProof.noPylong_small (by omega)))
theorem op_fdivN : OpR X (binaryOp .FloorDiv) (rI CDivN fun i j => .int (i.fdiv j)) := opI fun _ _ _ _ _ _ _ hc q => floordiv_int hc.1 q (.inl (PyProof.noPylong_small hc.2))
/-- % by a positive divisor of any size -/
theorem op_mod : OpR X (binaryOp .Mod) (rI (fun _ j => 0 < j) fun i j => .int (i % j)) := opI fun i j _ _ _ _ _ hc q => by
  have h1 : (0 : Int) < j := hc
  exact mod_int' (by omega) (by rw [Int.fmod_eq_emod_of_nonneg i (by omega)]; exact q)
theorem op_modN : OpR X (binaryOp .Mod) (rI (fun _ j => j ≠ 0) fun i j => .int (i.fmod j)) := opI fun _ _ _ _ _ _ _ hc q => mod_int' hc q
theorem op_pow : OpR X (binaryOp .Pow) (rI CPow fun i j => .int (i ^ j.toNat)) := opI fun _ _ _ _ _ _ _ hc q => pow_int_small hc.1 hc.2.1 hc.2.2 q
theorem op_shl : OpR X (binaryOp .LShift) (rI CPow fun i j => .int (i * 2 ^ j.toNat)) := opI fun _ _ _ _ _ _ _ hc q => lshift_int_small hc.1 hc.2.1 hc.2.2 q
theorem op_shr : OpR X (binaryOp .RShift) (rI (fun _ j => 0 ≤ j) fun i j => .int (i / 2 ^ j.toNat)) := opI fun i j _ _ _ _ _ hc q =>
  rshift_int hc (by rw [Int.fdiv_eq_ediv_of_nonneg i (two_pow_nn _)]; exact q)
theorem op_and : OpR X (binaryOp .BitAnd) (rI0 fun i j => .int (Builtin.bitAnd i j)) := opI0 fun _ _ _ _ _ _ _ q => and_int q
theorem op_or : OpR X (binaryOp .BitOr) (rI0 fun i j => .int (Builtin.bitOr i j)) := opI0 fun _ _ _ _ _ _ _ q => or_int q
theorem op_xor : OpR X (binaryOp .BitXor) (rI0 fun i j => .int (Builtin.bitXor i j)) := opI0 fun _ _ _ _ _ _ _ q => xor_int q

theorem iop_add : OpR X (inplaceOp .Add) (rI0 fun i j => .int (i + j)) := opI0 fun _ _ _ _ _ _ _ q => iadd_int q
theorem iop_sub : OpR X (inplaceOp .Sub) (rI0 fun i j => .int (i - j)) := opI0 fun _ _ _ _ _ _ _ q => isub_int q
theorem iop_mul : OpR X (inplaceOp .Mult) (rI CMul fun i j => .int (i * j)) := opI fun _ _ _ _ _ _ _ hc q => imul_int q hc.ok
theorem iop_fdiv : OpR X (inplaceOp .FloorDiv) (rI CDiv fun i j => .int (i / j)) := opI fun i j _ _ _ _ _ hc q => by
  have h1 : (0 : Int) < j := hc.1
  have h2 : j < 1073741824 := hc.2
  exact ifloordiv_int (by omega) (by rw [Int.fdiv_eq_ediv_of_nonneg i (by omega)]; exact q) (.inl (PyProof.noPylong_small (by omega)))
theorem iop_mod : OpR X (inplaceOp .Mod) (rI (fun _ j => 0 < j) fun i j => .int (i % j)) := opI fun i j _ _ _ _ _ hc q => by
  have h1 : (0 : Int) < j := hc
  exact imod_int (by omega) (by rw [Int.fmod_eq_emod_of_nonneg i (by omega)]; exact q)
theorem iop_shl : OpR X (inplaceOp .LShift) (rI CPow fun i j => .int (i * 2 ^ j.toNat)) := opI fun _ _ _ _ _ _ _ hc q => ilshift_int_small hc.1 hc.2.1 hc.2.2 q
theorem iop_shr : OpR X (inplaceOp .RShift) (rI (fun _ j => 0 ≤ j) fun i j => .int (i / 2 ^ j.toNat)) := opI fun i j _ _ _ _ _ hc q =>
  irshift_int hc (by rw [Int.fdiv_eq_ediv_of_nonneg i (two_pow_nn _)]; exact q)
theorem iop_and : OpR X (inplaceOp .BitAnd) (rI0 fun i j => .int (Builtin.bitAnd i j)) := opI0 fun _ _ _ _ _ _ _ q => iand_int q
theorem iop_or : OpR X (inplaceOp .BitOr) (rI0 fun i j => .int (Builtin.bitOr i j)) := opI0 fun _ _ _ _ _ _ _ q => ior_int q
theorem iop_xor : OpR X (inplaceOp .BitXor) (rI0 fun i j => .int (Builtin.bitXor i j)) := opI0 fun _ _ _ _ _ _ _ q => ixor_int q

theorem unI {f : Value → Sem Value} {g : Int → Int}
    (rule : ∀ (i : Int) (t : Tok) (s : Shared) (Q : Value → Shared → Prop) (E : Value → Shared → Prop), Q (.int (g i) s.toks) { s with toks := s.toks + 1 } → wpAny (model X.prog X.w) X.A (f (.int i t)) Q E s) :
    UnR X f (rU fun i => .int (g i)) := by
  intro pins s σ H x v Q I rx h
  obtain ⟨i, rfl, q⟩ := h
  obtain ⟨t, rfl⟩ := rx
  exact rule i t s _ _ ⟨.int (g i), H, I.tok _, ⟨_, rfl⟩, q⟩
theorem un_neg : UnR X (unaryOp .USub) (rU fun i => .int (-i)) := unI fun _ _ _ _ _ q => neg_int q
theorem un_inv : UnR X (unaryOp .Invert) (rU fun i => .int (Builtin.bitNot i)) := unI fun _ _ _ _ _ q => invert_int q

/-! ### bools among ints: n += (a < b) -/
theorem op_add_ib : OpR X (binaryOp .Add) (fun x y H Q => ∃ i k, x = .int i ∧ y = .bl k ∧ Q (.int (i + b2i k)) H) := by
  intro pins s σ H x y v u Q I rx ry h
  obtain ⟨i, k, rfl, rfl, q⟩ := h
  obtain ⟨t, rfl⟩ := rx
  cases ry
  exact add_int_bool ⟨.int (i + b2i k), H, I.tok _, ⟨_, rfl⟩, q⟩
end

/-! ### comparisons -/
/-- the scalars that == tells apart as data does -/
def scal : V → V → Bool
  | .non, .non => true | .non, .int _ => true | .int _, .non => true | .non, .bl _ => true | .bl _, .non => true | .non, .str _ => true | .str _, .non => true
  | .int _, .int _ => true | .bl _, .bl _ => true | .str _, .str _ => true | .byt _, .byt _ => true
  | .int _, .str _ => true | .str _, .int _ => true | .bl _, .str _ => true | .str _, .bl _ => true
  | _, _ => false
def rEq : R2 := fun x y H Q => scal x y = true ∧ Q (.bl (decide (x = y))) H
def rNe : R2 := fun x y H Q => scal x y = true ∧ Q (.bl (!decide (x = y))) H

theorem dec_int {i j : Int} : decide (V.int i = V.int j) = (i == j) := by
  rw [Bool.eq_iff_iff]
  simp
theorem dec_bl {i j : Bool} : decide (V.bl i = V.bl j) = (i == j) := by
  rw [Bool.eq_iff_iff]
  simp
theorem dec_str {i j : Str} : decide (V.str i = V.str j) = (i == j) := by
  rw [Bool.eq_iff_iff]
  simp
theorem dec_byt {i j : Array UInt8} : decide (V.byt i = V.byt j) = (i.toList == j.toList) := by
  rw [Bool.eq_iff_iff]
  cases i
  cases j
  simp

section
variable {X : Cx} {a b c : Expr} {ta tb tc : TE} {pos : Pos}
theorem fin_bl {pins : List (Addr × Obj)} {σ : St} {H : Hp} {s : Shared} {Q : VK} {k k' : Bool} (I : Inv X pins σ H s) (q : Q (.bl k) H) (e : k = k') : EP X pins σ Q (.bool k') s := by
  subst e
  exact ⟨.bl k, H, I, rfl, q⟩
theorem op_eq : OpR X (compareOp .Eq) rEq := by
  intro pins s σ H x y v u Q I rx ry h
  obtain ⟨hs, q⟩ := h
  cases x with
  | non =>
    cases rx
    cases y with
    | non => cases ry; exact PySem.EqNone.eq_none_none (fin_bl I q (by simp))
    | bl j => cases ry; exact PySem.EqNone.eq_none_bool (fin_bl I q (by simp))
    | int j => obtain ⟨t', rfl⟩ := ry; exact PySem.EqNone.eq_none_int (fin_bl I q (by simp))
    | str j => obtain ⟨t', rfl⟩ := ry; exact PySem.EqNone.eq_none_str (fin_bl I q (by simp))
    | _ => exact absurd (show false = true from hs) Bool.false_ne_true
  | bl i =>
    cases rx
    cases y with
    | non => cases ry; exact PySem.EqNone.eq_bool_none (fin_bl I q (by simp))
    | bl j => cases ry; exact eq_bool (fin_bl I q dec_bl)
    | str j => obtain ⟨t', rfl⟩ := ry; exact PySem.EqMixed.eq_bool_str (fin_bl I q (by simp))
    | _ => exact absurd (show false = true from hs) Bool.false_ne_true
  | int i =>
    obtain ⟨t, rfl⟩ := rx
    cases y with
    | non => cases ry; exact PySem.EqNone.eq_int_none (fin_bl I q (by simp))
    | int j => obtain ⟨t', rfl⟩ := ry; exact eq_int (fin_bl I q dec_int)
    | str j => obtain ⟨t', rfl⟩ := ry; exact PySem.EqMixed.eq_int_str (fin_bl I q (by simp))
    | _ => exact absurd (show false = true from hs) Bool.false_ne_true
  | str i =>
    obtain ⟨t, rfl⟩ := rx
    cases y with
    | non => cases ry; exact PySem.EqNone.eq_str_none (fin_bl I q (by simp))
    | bl j => cases ry; exact PySem.EqMixed.eq_str_bool (fin_bl I q (by simp))
    | int j => obtain ⟨t', rfl⟩ := ry; exact PySem.EqMixed.eq_str_int (fin_bl I q (by simp))
    | str j => obtain ⟨t', rfl⟩ := ry; exact eq_str (fin_bl I q dec_str)
    | _ => exact absurd (show false = true from hs) Bool.false_ne_true
  | byt i =>
    obtain ⟨t, rfl⟩ := rx
    cases y with
    | byt j => obtain ⟨t', rfl⟩ := ry; exact PySem.W.eq_bytes (fin_bl I q dec_byt)
    | _ => exact absurd (show false = true from hs) Bool.false_ne_true
  | _ => cases y <;> exact absurd (show false = true from hs) Bool.false_ne_true
theorem op_ne : OpR X (compareOp .NotEq) rNe := by
  intro pins s σ H x y v u Q I rx ry h
  obtain ⟨hs, q⟩ := h
  cases x with
  | non =>
    cases rx
    cases y with
    | non => cases ry; exact PySem.EqNone.ne_none_none (fin_bl I q (by simp))
    | bl j => cases ry; exact PySem.EqNone.ne_none_bool (fin_bl I q (by simp))
    | int j => obtain ⟨t', rfl⟩ := ry; exact PySem.EqNone.ne_none_int (fin_bl I q (by simp))
    | str j => obtain ⟨t', rfl⟩ := ry; exact PySem.EqNone.ne_none_str (fin_bl I q (by simp))
    | _ => exact absurd (show false = true from hs) Bool.false_ne_true
  | bl i =>
    cases rx
    cases y with
    | non => cases ry; exact PySem.EqNone.ne_bool_none (fin_bl I q (by simp))
    | bl j => cases ry; exact ne_bool (fin_bl I q (congrArg not dec_bl))
    | str j => obtain ⟨t', rfl⟩ := ry; exact PySem.EqMixed.ne_bool_str (fin_bl I q (by simp))
    | _ => exact absurd (show false = true from hs) Bool.false_ne_true
  | int i =>
    obtain ⟨t, rfl⟩ := rx
    cases y with
    | non => cases ry; exact PySem.EqNone.ne_int_none (fin_bl I q (by simp))
    | int j => obtain ⟨t', rfl⟩ := ry; exact ne_int (fin_bl I q (congrArg not dec_int))
    | str j => obtain ⟨t', rfl⟩ := ry; exact PySem.EqMixed.ne_int_str (fin_bl I q (by simp))
    | _ => exact absurd (show false = true from hs) Bool.false_ne_true
  | str i =>
    obtain ⟨t, rfl⟩ := rx
    cases y with
    | non => cases ry; exact PySem.EqNone.ne_str_none (fin_bl I q (by simp))
    | bl j => cases ry; exact PySem.EqMixed.ne_str_bool (fin_bl I q (by simp))
    | int j => obtain ⟨t', rfl⟩ := ry; exact PySem.EqMixed.ne_str_int (fin_bl I q (by simp))
    | str j => obtain ⟨t', rfl⟩ := ry; exact ne_str (fin_bl I q (congrArg not dec_str))
    | _ => exact absurd (show false = true from hs) Bool.false_ne_true
  | byt i =>
    obtain ⟨t, rfl⟩ := rx
    cases y with
    | byt j => obtain ⟨t', rfl⟩ := ry; exact PySem.W.ne_bytes (fin_bl I q (congrArg not dec_byt))
    | _ => exact absurd (show false = true from hs) Bool.false_ne_true
  | _ => cases y <;> exact absurd (show false = true from hs) Bool.false_ne_true

theorem op_lt : OpR X (compareOp .Lt) (rI0 fun i j => .bl (decide (i < j))) := opB0 fun _ _ _ _ _ _ _ q => lt_int q
theorem op_le : OpR X (compareOp .LtE) (rI0 fun i j => .bl (decide (i ≤ j))) := opB0 fun _ _ _ _ _ _ _ q => le_int q
theorem op_gt : OpR X (compareOp .Gt) (rI0 fun i j => .bl (decide (j < i))) := opB0 fun _ _ _ _ _ _ _ q => gt_int q
theorem op_ge : OpR X (compareOp .GtE) (rI0 fun i j => .bl (decide (j ≤ i))) := opB0 fun _ _ _ _ _ _ _ q => ge_int q
theorem op_lt_str : OpR X (compareOp .Lt) (fun x y H Q => ∃ i j, x = .str i ∧ y = .str j ∧ Q (.bl (decide (i.cps.toList < j.cps.toList))) H) := by
  intro pins s σ H x y v u Q I rx ry h
  obtain ⟨i, j, rfl, rfl, q⟩ := h
  obtain ⟨t, rfl⟩ := rx
  obtain ⟨t', rfl⟩ := ry
  exact lt_str (fin_bl I q rfl)
/-- the one string within the other -/
theorem op_in_str : OpR X (compareOp .In) (fun x y H Q => ∃ i j, x = .str i ∧ y = .str j ∧ Q (.bl (!(Builtin.Str.occurrences j i 0 j.length 1).isEmpty)) H) := by
  intro pins s σ H x y v u Q I rx ry h
  obtain ⟨i, j, rfl, rfl, q⟩ := h
  obtain ⟨t, rfl⟩ := rx
  obtain ⟨t', rfl⟩ := ry
  exact in_str (fin_bl I q rfl)

/-- is None, is not None: the right side a value none -/
theorem op_isN : OpR X (compareOp .Is) (fun x y H Q => y = .non ∧ Q (.bl (decide (x = .non))) H) := by
  intro pins s σ H x y v u Q I rx ry h
  obtain ⟨rfl, q⟩ := h
  cases ry
  refine is_none_gen (fin_bl I q ?_)
  cases x <;> first
    | (cases rx; rfl)
    | (obtain ⟨t, rfl⟩ := rx; rfl)
theorem op_notN : OpR X (compareOp .IsNot) (fun x y H Q => y = .non ∧ Q (.bl (!decide (x = .non))) H) := by
  intro pins s σ H x y v u Q I rx ry h
  obtain ⟨rfl, q⟩ := h
  cases ry
  refine isnot_none_gen (fin_bl I q ?_)
  cases x <;> first
    | (cases rx; rfl)
    | (obtain ⟨t, rfl⟩ := rx; rfl)

theorem op_notin_str : OpR X (compareOp .NotIn) (fun x y H Q => ∃ i j, x = .str i ∧ y = .str j ∧ Q (.bl (!(!(Builtin.Str.occurrences j i 0 j.length 1).isEmpty))) H) := by
  intro pins s σ H x y v u Q I rx ry h
  obtain ⟨i, j, rfl, rfl, q⟩ := h
  obtain ⟨t, rfl⟩ := rx
  obtain ⟨t', rfl⟩ := ry
  exact notIn_str (fin_bl I q rfl)
/-- is, is not of two objects that are tracked lists or instances -/
def isObj : HO → Bool
  | .lst _ => true
  | .ins _ _ _ => true
  | _ => false
theorem obj_there {pins : List (Addr × Obj)} {s : Shared} {σ : St} {H : Hp} {a : Addr} {o : HO} (I : Inv X pins σ H s) (h : H a = some o) (p : isObj o = true) : ∃ ob, s.heap.get? a = some ob ∧ ob.cls ≠ .type "tuple" := by
  cases o with
  | lst xs =>
    obtain ⟨_, its, n, _, e⟩ : xs.length ≤ sizeLine ∧ ∃ (its : List Value) (n : Nat), Vals xs its ∧ s.heap.get? a = some { cls := .type "list", data := .seq its.toArray n } := I.hok a _ h
    exact ⟨_, e, (by show Value.type "list" ≠ .type "tuple"; decide +kernel)⟩
  | ins C dx fs =>
    have x := I.hok a _ h
    obtain ⟨_, _, _, e, _⟩ := x
    exact ⟨_, e, (by show Value.ref C ≠ .type "tuple"; exact fun z => by cases z)⟩
  | _ => exact absurd (show false = true from p) Bool.false_ne_true
theorem op_is_ref : OpR X (compareOp .Is) (fun x y H Q => ∃ a b oa ob, x = .ref a ∧ y = .ref b ∧ H a = some oa ∧ isObj oa = true ∧ H b = some ob ∧ isObj ob = true ∧ Q (.bl (decide (a = b))) H) := by
  intro pins s σ H x y v u Q I rx ry h
  obtain ⟨a, b, oa, ob, rfl, rfl, ha, pa, hb, pb, q⟩ := h
  cases rx
  cases ry
  obtain ⟨o1, e1, n1⟩ := obj_there I ha pa
  obtain ⟨o2, e2, _⟩ := obj_there I hb pb
  by_cases z : a = b
  · subst z
    exact wpAny_is_ref_self (fin_bl I q (by simp))
  · exact wpAny_is_ref_other z e1 e2 n1 (fin_bl I q (by simp [z]))
theorem op_isnot_ref : OpR X (compareOp .IsNot) (fun x y H Q => ∃ a b oa ob, x = .ref a ∧ y = .ref b ∧ H a = some oa ∧ isObj oa = true ∧ H b = some ob ∧ isObj ob = true ∧ Q (.bl (!decide (a = b))) H) := by
  intro pins s σ H x y v u Q I rx ry h
  obtain ⟨a, b, oa, ob, rfl, rfl, ha, pa, hb, pb, q⟩ := h
  cases rx
  cases ry
  obtain ⟨o1, e1, n1⟩ := obj_there I ha pa
  obtain ⟨o2, e2, _⟩ := obj_there I hb pb
  by_cases z : a = b
  · subst z
    exact wpAny_isNot_ref_self (fin_bl I q (by simp))
  · exact wpAny_isNot_ref_other z e1 e2 n1 (fin_bl I q (by simp [z]))

/-- two rules for one operation: by cases -/
theorem OpR.or {f : Value → Value → Sem Value} {r r' : R2} (h : OpR X f r) (h' : OpR X f r') : OpR X f (fun x y H Q => r x y H Q ∨ r' x y H Q) := by
  intro pins s σ H x y v u Q I rx ry q
  rcases q with q | q
  · exact h pins s σ H x y v u Q I rx ry q
  · exact h' pins s σ H x y v u Q I rx ry q

theorem nomark (b : Expr) {op : CmpOp} (h : op ≠ .In := by decide) (h2 : op ≠ .NotIn := by decide) : behindInMarks op b = false := by
  have e1 : (op == CmpOp.In) = false := by cases op <;> first | rfl | exact absurd rfl h
  have e2 : (op == CmpOp.NotIn) = false := by cases op <;> first | rfl | exact absurd rfl h2
  cases b <;> simp [behindInMarks, e1, e2]
/-- a comparison as a value; hm: nomark b, or (for in, not in) by with_unfolding_all rfl -/
theorem pe_cmpR {op : CmpOp} {r : R2} (ho : OpR X (compareOp op) r) (ha : PE X a ta) (hb : PE X b tb) (hm : behindInMarks op b = false) : PE X (.Compare a [op] [b] pos) (tOp r ta tb) := by
  intro pins s σ H Q I h
  exact wpAny_Compare1 (binT ha hb I h fun v u s2 x y H2 I2 rx ry q => ho pins s2 σ H2 x y v u Q I2 rx ry q) hm
/-- a reading of a value as a test -/
def tTest (t : TE) : TT := fun σ H Q => t σ H fun x H' => ∃ k, x = .bl k ∧ Q k H'
theorem pt_cmpR {op : CmpOp} {r : R2} (ho : OpR X (compareOp op) r) (ha : PE X a ta) (hb : PE X b tb) (hm : behindInMarks op b = false) : PT X (.Compare a [op] [b] pos) (tTest (tOp r ta tb)) := by
  intro pins s σ H Q I h
  refine wpAny_isTrue_Compare1 (thn (ha pins s σ H _ I h) fun v s1 ⟨x, H1, I1, r1, q1⟩ => thn (hb pins s1 σ H1 _ I1 q1) fun u s2 ⟨y, H2, I2, r2, q2⟩ =>
    thn (ho pins s2 σ H2 x y v u _ I2 r1 r2 q2) fun c s3 ⟨z, H3, I3, r3, k, e, q3⟩ => ?_) hm
  subst e
  cases r3
  exact wpAny_truthy_bool ⟨H3, I3, q3⟩
/-- a op1 b op2 c -/
def tChain (r r' : R2) (ta tb tc : TE) : TE := fun σ H Q => ta σ H fun x H1 => tb σ H1 fun y H2 => r x y H2 fun z H3 => ∃ k, z = .bl k ∧
  (if k = true then tc σ H3 fun w' H4 => r' y w' H4 Q else Q (.bl false) H3)
theorem pe_chain {op op' : CmpOp} {r r' : R2} (ho : OpR X (compareOp op) r) (ho' : OpR X (compareOp op') r') (ha : PE X a ta) (hb : PE X b tb) (hc : PE X c tc)
    (hm : lastMarks [op, op'] [b, c] = false := by with_unfolding_all rfl) : PE X (.Compare a [op, op'] [b, c] pos) (tChain r r' ta tb tc) := by
  intro pins s σ H Q I h
  refine Compare_chain (thn (ha pins s σ H _ I h) fun v s1 ⟨x, H1, I1, r1, q1⟩ => chain_link (thn (hb pins s1 σ H1 _ I1 q1) fun u s2 ⟨y, H2, I2, r2, q2⟩ =>
    thn (ho pins s2 σ H2 x y v u _ I2 r1 r2 q2) fun d s3 ⟨z, H3, I3, r3, k, e, q3⟩ => ?_)) hm
  subst e
  cases r3
  refine wpAny_truthy_bool ?_
  cases k with
  | false => exact ite_ff ⟨.bl false, H3, I3, rfl, q3⟩
  | true => exact ite_tt (chain_last (thn (hc pins s3 σ H3 _ I3 q3) fun w' s4 ⟨z', H4, I4, r4, q4⟩ => ho' pins s4 σ H4 y z' u w' Q I4 r2 r4 q4))
theorem pt_chain {op op' : CmpOp} {r r' : R2} (ho : OpR X (compareOp op) r) (ho' : OpR X (compareOp op') r') (ha : PE X a ta) (hb : PE X b tb) (hc : PE X c tc)
    (hm : lastMarks [op, op'] [b, c] = false := by with_unfolding_all rfl) : PT X (.Compare a [op, op'] [b, c] pos) (tTest (tChain r r' ta tb tc)) := by
  intro pins s σ H Q I h
  refine isTrue_chain (thn (ha pins s σ H _ I h) fun v s1 ⟨x, H1, I1, r1, q1⟩ => test_link (thn (hb pins s1 σ H1 _ I1 q1) fun u s2 ⟨y, H2, I2, r2, q2⟩ =>
    thn (ho pins s2 σ H2 x y v u _ I2 r1 r2 q2) fun d s3 ⟨z, H3, I3, r3, k, e, q3⟩ => ?_)) hm
  subst e
  cases r3
  refine wpAny_truthy_bool ?_
  cases k with
  | false =>
    obtain ⟨k', e', q'⟩ := q3
    cases e'
    exact ite_ff ⟨H3, I3, q'⟩
  | true =>
    refine ite_tt (test_last (thn (hc pins s3 σ H3 _ I3 q3) fun w' s4 ⟨z', H4, I4, r4, q4⟩ => thn (ho' pins s4 σ H4 y z' u w' _ I4 r2 r4 q4) fun d' s5 ⟨z2, H5, I5, r5, k2, e2, q5⟩ => ?_))
    subst e2
    cases r5
    exact wpAny_truthy_bool ⟨H5, I5, q5⟩

/-! ### truth -/
/-- a value's truth by the abstract heap -/
def TruV (K : PySem.W.Frag) (x : V) (H : Hp) (k : Bool) : Prop :=
  match x with
  | .non => k = false
  | .bl b => k = b
  | .int i => k = (i != 0)
  | .str y => y.length ≤ sizeLine ∧ k = ((y.length : Int) != 0)
  | .byt y => y.size ≤ sizeLine ∧ k = ((y.size : Int) != 0)
  | .ref p => (∃ xs, SqL K H p xs ∧ k = !xs.isEmpty) ∨ (∃ xs, SqT K H p xs ∧ k = !xs.isEmpty) ∨ ∃ kvs, H p = some (.dK kvs) ∧ k = !kvs.isEmpty
  | _ => False
theorem isEmpty_kv {κ : Type} {kvs : List (κ × V)} {vs : List (κ × Value)} (r : KV kvs vs) : (!vs.isEmpty) = !kvs.isEmpty := by
  cases r <;> rfl
theorem isEmpty_of {xs : List V} {its : List Value} (r : Vals xs its) : (!its.toArray.isEmpty) = !xs.isEmpty := by
  cases r <;> simp
theorem line63 : (sizeLine : Nat) < 2 ^ 63 := by rw [sizeLine_eq]; decide
theorem tru_ok : TruR X (fun x H Q => ∃ k, TruV X.K x H k ∧ Q k H) := by
  intro pins s σ H x v Q I rx h
  obtain ⟨k, e, q⟩ := h
  have hl := line63
  have hs : sizeLine = 16777216 := sizeLine_eq
  cases x with
  | non =>
    cases rx
    have e' : k = false := e
    subst e'
    exact truthy_none ⟨H, I, q⟩
  | bl b =>
    cases rx
    have e' : k = b := e
    subst e'
    exact wpAny_truthy_bool ⟨H, I, q⟩
  | int i =>
    obtain ⟨t, rfl⟩ := rx
    have e' : k = (i != 0) := e
    subst e'
    exact PySem.P.truthy_int ⟨H, I, q⟩
  | str y =>
    obtain ⟨t, rfl⟩ := rx
    obtain ⟨hy, e'⟩ : y.length ≤ sizeLine ∧ k = ((y.length : Int) != 0) := e
    subst e'
    exact PySem.P.truthy_str (by omega) ⟨H, I.tok _, q⟩
  | byt y =>
    obtain ⟨t, rfl⟩ := rx
    obtain ⟨hy, e'⟩ : y.size ≤ sizeLine ∧ k = ((y.size : Int) != 0) := e
    subst e'
    exact PySem.W.truthy_bytes (by omega) ⟨H, I.tok _, q⟩
  | ref p =>
    cases rx
    have e' : (∃ xs, SqL X.K H p xs ∧ k = !xs.isEmpty) ∨ (∃ xs, SqT X.K H p xs ∧ k = !xs.isEmpty) ∨ ∃ kvs, H p = some (.dK kvs) ∧ k = !kvs.isEmpty := e
    rcases e' with ⟨xs, hx, e'⟩ | ⟨xs, hx, e'⟩ | ⟨kvs, hx, e'⟩
    · subst e'
      obtain ⟨its, r, pl, hz⟩ := I.list hx
      have hlen := r.length
      exact wpAny_truthy_list pl.isList (by simp only [List.size_toArray]; omega) ⟨H, I.tok _, by rw [isEmpty_of r]; exact q⟩
    · subst e'
      obtain ⟨its, r, pl, hz⟩ := I.tuple hx
      have hlen := r.length
      exact truthy_tuple pl (by simp only [List.size_toArray]; omega) ⟨H, I.tok _, by rw [isEmpty_of r]; exact q⟩
    · subst e'
      obtain ⟨hz, hS, vs, r, m⟩ : kvs.length ≤ sizeLine ∧ (p == sysModules) = false ∧ ∃ vs, KV kvs vs ∧ s.heap.DictOf (mixKind X.prog X.w) p vs := I.hok p _ hx
      have hlen : kvs.length = vs.length := Paired.length r
      exact wpAny_truthy_dict hS m (by omega) ⟨H, I.tok _, by rw [isEmpty_kv r]; exact q⟩
  | _ => exact (show False from e).elim
/-- any expression whose test is its value's truth (a name, a call, a subscript, a field ..: he by fun _ => rfl) -/
theorem pt_truth (ha : PE X a ta) (he : ∀ whole, isTrue a X.env whole = (do let v ← whole; standAt a.pos; holding [v] (truthy v))) :
    PT X a (fun σ H Q => ta σ H fun x H' => ∃ k, TruV X.K x H' k ∧ Q k H') := by
  intro pins s σ H Q I h
  exact isTrue_plain (thn (ha pins s σ H _ I h) fun v s1 ⟨x, H1, I1, r1, q1⟩ => tru_ok pins s1 σ H1 x v Q I1 r1 q1) (he _)

/-! ### strs and bytes -/
theorem pe_byt {x : List UInt8} {k : Nat} : PE X (.Constant (.bytes x) k pos) (fun _ H Q => Q (.byt x.toArray) H) := fun _ _ _ H _ I h => PySem.W.Constant_bytes ⟨.byt x.toArray, H, I.tok _, ⟨_, rfl⟩, h⟩
theorem op_add_str : OpR X (binaryOp .Add) (fun x y H Q => ∃ i j, x = .str i ∧ y = .str j ∧ i.length + j.length ≤ sizeLine ∧ Q (.str (i ++ j)) H) := by
  intro pins s σ H x y v u Q I rx ry h
  obtain ⟨i, j, rfl, rfl, hz, q⟩ := h
  obtain ⟨t, rfl⟩ := rx
  obtain ⟨t', rfl⟩ := ry
  exact add_str (fun t' tk => ⟨.str (i ++ j), H, I.tok _, ⟨_, rfl⟩, q⟩) hz
theorem iop_add_str : OpR X (inplaceOp .Add) (fun x y H Q => ∃ i j, x = .str i ∧ y = .str j ∧ i.length + j.length ≤ sizeLine ∧ Q (.str (i ++ j)) H) := by
  intro pins s σ H x y v u Q I rx ry h
  obtain ⟨i, j, rfl, rfl, hz, q⟩ := h
  obtain ⟨t, rfl⟩ := rx
  obtain ⟨t', rfl⟩ := ry
  exact iadd_str (fun t' tk => ⟨.str (i ++ j), H, I.tok _, ⟨_, rfl⟩, q⟩) hz
theorem op_add_byt : OpR X (binaryOp .Add) (fun x y H Q => ∃ i j, x = .byt i ∧ y = .byt j ∧ i.size + j.size ≤ 16777216 ∧ Q (.byt (i ++ j)) H) := by
  intro pins s σ H x y v u Q I rx ry h
  obtain ⟨i, j, rfl, rfl, hz, q⟩ := h
  obtain ⟨t, rfl⟩ := rx
  obtain ⟨t', rfl⟩ := ry
  exact PySem.W.KBy.add_bytes hz (fun t' tk => ⟨.byt (i ++ j), H, I.tok _, ⟨_, rfl⟩, q⟩)

def PlainIxT (b : Expr) : Prop := ∀ o i, subscripted b false o i = operate [o, i] (getItem o i)
/-- s[i], 0 ≤ i < len -/
theorem pe_item_str (ha : PE X a ta) (hb : PE X b tb) (hs : PlainIxT b) :
    PE X (.Subscript a b pos) (tOp (fun x y H Q => ∃ z i c, x = .str z ∧ y = .int i ∧ 0 ≤ i ∧ i < 2 ^ 63 ∧ i < z.length ∧ z.cps[i.toNat]? = some c ∧ Q (.str ⟨#[c]⟩) H) ta tb) := by
  intro pins s σ H Q I h
  refine Subscript_ (binT ha hb I h fun v u s2 x y H2 I2 rx ry q => ?_)
  obtain ⟨z, i, c, rfl, rfl, h0, h63, h1, hc, q⟩ := q
  obtain ⟨t, rfl⟩ := rx
  obtain ⟨t', rfl⟩ := ry
  have e : seqIndex? i z.length = some i.toNat := PySem.StrLaws.seqIndex_nonneg h0 h1
  exact tail_any (typeIs_str s2 z t) slot_str_getitem.lookup (getItem_str (c := c) (by
    have e1 : decide (i < -(2 ^ 63 : Int)) = false := decide_eq_false (by omega)
    have e2 : decide (i ≥ 2 ^ 63) = false := decide_eq_false (by omega)
    rw [e1, e2] <;> rfl) (by rw [e]; exact hc) ⟨.str ⟨#[c]⟩, H2, I2.tok _, ⟨_, rfl⟩, q⟩) (hs _ _)
/-- b[i], 0 ≤ i < len -/
theorem pe_item_byt (ha : PE X a ta) (hb : PE X b tb) (hs : PlainIxT b) :
    PE X (.Subscript a b pos) (tOp (fun x y H Q => ∃ (z : List UInt8) (i : Int), x = .byt z.toArray ∧ y = .int i ∧ z.length ≤ sizeLine ∧ 0 ≤ i ∧ i < z.length ∧ Q (.int ((z.getD i.toNat 0).toNat : Nat)) H) ta tb) := by
  intro pins s σ H Q I h
  refine Subscript_ (binT ha hb I h fun v u s2 x y H2 I2 rx ry q => ?_)
  obtain ⟨z, i, rfl, rfl, hz, h0, h1, q⟩ := q
  obtain ⟨t, rfl⟩ := rx
  obtain ⟨t', rfl⟩ := ry
  have hl : sizeLine = 16777216 := sizeLine_eq
  exact tail_any (PySem.W.typeIs_bytes s2 z.toArray t) PySem.W.FB.slot_bytes_getitem.lookup (PySem.W.getItem_bytes (by omega) h0 h1 ⟨.int ((z.getD i.toNat 0).toNat : Nat), H2, I2.tok _, ⟨_, rfl⟩, q⟩) (hs _ _)

/-! ### scalar builtins, by CallR -/
theorem vals1 {x : V} {us : List Value} (r : Vals [x] us) : ∃ u, us = [u] ∧ RelV x u := by
  cases r with
  | cons r1 r2 => cases r2; exact ⟨_, rfl, r1⟩
theorem vals2 {x y : V} {us : List Value} (r : Vals [x, y] us) : ∃ u w', us = [u, w'] ∧ RelV x u ∧ RelV y w' := by
  cases r with
  | cons r1 r2 =>
    cases r2 with
    | cons r3 r4 => cases r4; exact ⟨_, _, rfl, r1, r3⟩
theorem call_abs : CallR X (.builtin "abs") (fun xs H Q => ∃ i, xs = [.int i] ∧ Q (.int (if i < 0 then -i else i)) H) := by
  intro pins s σ H xs us Q I r h
  obtain ⟨i, rfl, q⟩ := h
  obtain ⟨u, rfl, t, rfl⟩ := vals1 r
  exact call_abs_int fun u tk => ⟨.int (if i < 0 then -i else i), H, I.tok _, ⟨_, rfl⟩, q⟩
theorem call_max2 (hc : X.calm = true) : CallR X (.builtin "max") (fun xs H Q => ∃ i j, xs = [.int i, .int j] ∧ Q (.int (if j > i then j else i)) H) := by
  intro pins s σ H xs us Q I r h
  obtain ⟨i, j, rfl, q⟩ := h
  obtain ⟨u, w', rfl, ⟨t, rfl⟩, ⟨t', rfl⟩⟩ := vals2 r
  refine max_two_ints (I.ok.hd hc) fun h' tk k => ⟨_, H, I.kept k, ?_, q⟩
  by_cases hj : j > i
  · rw [if_pos hj, if_pos hj]; exact ⟨_, rfl⟩
  · rw [if_neg hj, if_neg hj]; exact ⟨_, rfl⟩
theorem call_min2 (hc : X.calm = true) : CallR X (.builtin "min") (fun xs H Q => ∃ i j, xs = [.int i, .int j] ∧ Q (.int (if j < i then j else i)) H) := by
  intro pins s σ H xs us Q I r h
  obtain ⟨i, j, rfl, q⟩ := h
  obtain ⟨u, w', rfl, ⟨t, rfl⟩, ⟨t', rfl⟩⟩ := vals2 r
  refine min_two_ints (I.ok.hd hc) fun h' tk k => ⟨_, H, I.kept k, ?_, q⟩
  by_cases hj : j < i
  · rw [if_pos hj, if_pos hj]; exact ⟨_, rfl⟩
  · rw [if_neg hj, if_neg hj]; exact ⟨_, rfl⟩
theorem call_int1 : CallR X (.type "int") (fun xs H Q => (∃ i, xs = [.int i] ∧ Q (.int i) H) ∨ ∃ k, xs = [.bl k] ∧ Q (.int (if k then 1 else 0)) H) := by
  intro pins s σ H xs us Q I r h
  rcases h with ⟨i, rfl, q⟩ | ⟨k, rfl, q⟩
  · obtain ⟨u, rfl, t, rfl⟩ := vals1 r
    exact call_int_int ⟨.int i, H, I, ⟨_, rfl⟩, q⟩
  · obtain ⟨u, rfl, r1⟩ := vals1 r
    cases r1
    exact call_int_bool ⟨.int (if k then 1 else 0), H, I.tok _, ⟨_, rfl⟩, q⟩
theorem call_bool1 : CallR X (.type "bool") (fun xs H Q => (∃ i, xs = [.int i] ∧ Q (.bl (i != 0)) H) ∨ ∃ k, xs = [.bl k] ∧ Q (.bl k) H) := by
  intro pins s σ H xs us Q I r h
  rcases h with ⟨i, rfl, q⟩ | ⟨k, rfl, q⟩
  · obtain ⟨u, rfl, t, rfl⟩ := vals1 r
    exact call_bool_int ⟨.bl (i != 0), H, I, rfl, q⟩
  · obtain ⟨u, rfl, r1⟩ := vals1 r
    cases r1
    exact call_bool_bool ⟨.bl k, H, I, rfl, q⟩
theorem call_str_int : CallR X (.type "str") (fun xs H Q => ∃ i, xs = [.int i] ∧ i.natAbs.log2 < 1920 ∧ Q (.str (toString i)) H) := by
  intro pins s σ H xs us Q I r h
  obtain ⟨i, rfl, hz, q⟩ := h
  obtain ⟨u, rfl, t, rfl⟩ := vals1 r
  exact PySem.P.str_of_int hz ⟨.str _, H, I.tok _, ⟨_, rfl⟩, q⟩
theorem call_ord : CallR X (.builtin "ord") (fun xs H Q => ∃ x, xs = [.str x] ∧ x.length = 1 ∧ Q (.int (x.cps.getD 0 0 : Nat)) H) := by
  intro pins s σ H xs us Q I r h
  obtain ⟨x, rfl, hz, q⟩ := h
  obtain ⟨u, rfl, t, rfl⟩ := vals1 r
  exact ord_of_one hz ⟨.int _, H, I.tok _, ⟨_, rfl⟩, q⟩
theorem call_chr : CallR X (.builtin "chr") (fun xs H Q => ∃ i, xs = [.int i] ∧ 0 ≤ i ∧ i ≤ 1114111 ∧ Q (.str ⟨#[i.toNat]⟩) H) := by
  intro pins s σ H xs us Q I r h
  obtain ⟨i, rfl, h0, h1, q⟩ := h
  obtain ⟨u, rfl, t, rfl⟩ := vals1 r
  exact chr_of_range h0 h1 ⟨.str _, H, I.tok _, ⟨_, rfl⟩, q⟩
/-- len of a str, a bytes, a list, a tuple -/
def LenV (K : PySem.W.Frag) (x : V) (H : Hp) (n : Nat) : Prop :=
  match x with
  | .str y => y.length ≤ sizeLine ∧ n = y.length
  | .byt y => y.size ≤ sizeLine ∧ n = y.size
  | .ref p => (∃ xs, SqL K H p xs ∧ n = xs.length) ∨ ∃ xs, SqT K H p xs ∧ n = xs.length
  | _ => False
theorem call_len : CallR X (.builtin "len") (fun xs H Q => ∃ x n, xs = [x] ∧ LenV X.K x H n ∧ Q (.int n) H) := by
  intro pins s σ H xs us Q I r h
  obtain ⟨x, n, rfl, e, q⟩ := h
  obtain ⟨u, rfl, rx⟩ := vals1 r
  have hl := line63
  have hs : sizeLine = 16777216 := sizeLine_eq
  cases x with
  | str y =>
    obtain ⟨t, rfl⟩ := rx
    obtain ⟨hy, e'⟩ : y.length ≤ sizeLine ∧ n = y.length := e
    subst e'
    exact len_str (by omega) ⟨.int _, H, I.tok _, ⟨_, rfl⟩, q⟩
  | byt y =>
    obtain ⟨t, rfl⟩ := rx
    obtain ⟨hy, e'⟩ : y.size ≤ sizeLine ∧ n = y.size := e
    subst e'
    exact PySem.W.len_bytes (by omega) ⟨.int _, H, I.tok _, ⟨_, rfl⟩, q⟩
  | ref p =>
    cases rx
    have e' : (∃ xs, SqL X.K H p xs ∧ n = xs.length) ∨ ∃ xs, SqT X.K H p xs ∧ n = xs.length := e
    rcases e' with ⟨xs, hx, e'⟩ | ⟨xs, hx, e'⟩
    · subst e'
      obtain ⟨its, r', pl, hz⟩ := I.list hx
      have hlen := r'.length
      exact Calls.call_len_list pl.isList (by simp only [List.size_toArray]; omega) ⟨.int xs.length, H, I.tok _, ⟨_, by simp only [List.size_toArray]; rw [hlen]⟩, q⟩
    · subst e'
      obtain ⟨its, r', pl, hz⟩ := I.tuple hx
      have hlen := r'.length
      exact len_tuple pl (by simp only [List.size_toArray]; omega) ⟨.int xs.length, H, I.tok _, ⟨_, by simp only [List.size_toArray]; rw [hlen]⟩, q⟩
  | _ => exact (show False from e).elim
/-- divmod: a new tuple -/
theorem call_divmod : CallR X (.builtin "divmod") (fun xs H Q => ∃ i j, xs = [.int i, .int j] ∧ CDiv i j ∧ ∀ p, H p = none → Q (.ref p) (upd H p (.tup [.int (i / j), .int (i % j)]))) := by
  intro pins s σ H xs us Q I r h
  obtain ⟨i, j, rfl, ⟨h1, h2⟩, q⟩ := h
  obtain ⟨u, w', rfl, ⟨t, rfl⟩, ⟨t', rfl⟩⟩ := vals2 r
  refine divmod_int (by omega) ?_ (.inl (PyProof.noPylong_small (by omega)))
  rw [Int.fdiv_eq_ediv_of_nonneg i (by omega), Int.fmod_eq_emod_of_nonneg i (by omega)]
  have hn : H s.heap.objs.size = none := I.hok.fresh (Nat.le_refl _)
  refine ⟨.ref s.heap.objs.size, _, ?_, rfl, q _ hn⟩
  refine I.laid (fun b o e => Heap.get?_push_of_some _ e) (Nat.le_refl _) ⟨by simp only [List.length_cons, List.length_nil]; rw [sizeLine_eq]; decide, [.int (i / j) s.toks, .int (i % j) (s.toks + 1)], .cons ⟨_, rfl⟩ (.cons ⟨_, rfl⟩ .nil), ?_⟩
  exact ⟨_, Heap.get?_push_size s.heap rfl, rfl, 0, rfl⟩
end
end L2

namespace L2
open PySem PySem.Spec PyProof.Rows

/-! ### an instance, its attributes a map -/
structure ObjM (h : Heap) (x dx C : Addr) (mA : Str → Option Value) : Prop where
  obj : h.get? x = some (PySem.W.instObj C dx)
  ns : h.Ns1 dx mA
  ne : dx ≠ x

theorem lookIn_ns {h : Heap} {dx : Addr} {mA : Str → Option Value} (n : h.Ns1 dx mA) : ∃ od, h.get? dx = some od ∧ ∀ name, PySem.W.lookIn name od = some (mA name) := by
  obtain ⟨o, es, ep, ho, hd, hk, _, hm⟩ := n
  refine ⟨o, ho, fun name => ?_⟩
  have e := hm name
  unfold nsFind findBy at e
  rw [← Array.find?_toList] at e
  unfold PySem.W.lookIn
  rw [hd]
  dsimp only
  split
  · rename_i y q
    rw [q] at e
    exact congrArg some e
  · rename_i q
    rw [q] at e
    have a : es.toList.any (·.refKey) = false := by
      rw [List.any_eq_false]
      intro y hy
      obtain ⟨z, t, hkey⟩ := hk y (Array.mem_toList_iff.mp hy)
      simp [DictEntry.refKey, hkey]
    have a' : ¬ es.toList.any (·.refKey) = true := by rw [a]; exact Bool.false_ne_true
    rw [if_neg a']
    exact congrArg some e

theorem ObjM.look {h : Heap} {x dx C : Addr} {mA : Str → Option Value} (I : ObjM h x dx C mA) : ∃ od, PySem.W.InstAt h x (PySem.W.instObj C dx) C (some od) ∧ ∀ name, PySem.W.lookIn name od = some (mA name) :=
  let ⟨od, ho, hl⟩ := lookIn_ns I.ns
  ⟨od, ⟨I.obj, rfl, rfl, ho⟩, hl⟩

section
variable {prog : Program} {w : World} {A : Around} {E : Value → Shared → Prop} {s : Shared} {K : PySem.W.Frag} {x dx C f : Addr} {mA : Str → Option Value} {name : Str} {v : Value}

theorem get_map {expr : Bool} {Q : Value → Shared → Prop} (X : K.In s.heap) (I : ObjM s.heap x dx C mA) (hg : PySem.W.plainGet K C name = true) (hh : PySem.W.hasDictIn K C = true)
    (ha : PySem.W.findIn K (.ref C) name = some none) (hv : mA name = some v) (hv' : PySem.W.handedIn v = true) (h : Q v { s with toks := s.toks + 1 }) :
    wpAny (model prog w) A (getAttr (.ref x) name expr) Q E s := by
  obtain ⟨od, J, hl⟩ := I.look
  exact PySem.W.get_value X J (PySem.W.plainGet_of hg).1 (PySem.W.findObj_own hh ha rfl (by rw [hl, hv])) hv' h

theorem get_const {expr : Bool} {a : Value} {Q : Value → Shared → Prop} (X : K.In s.heap) (I : ObjM s.heap x dx C mA) (hg : PySem.W.plainGet K C name = true) (hh : PySem.W.hasDictIn K C = true)
    (ha : PySem.W.findIn K (.ref C) name = some (some a)) (hn : PySem.W.specialIn K a "__get__" = some none) (hc : PySem.W.copiedNames.contains name = false) (hv : mA name = none) (hv' : PySem.W.handedIn a = true)
    (h : Q a { s with toks := s.toks + 1 }) : wpAny (model prog w) A (getAttr (.ref x) name expr) Q E s := by
  obtain ⟨od, J, hl⟩ := I.look
  exact PySem.W.get_value X J (PySem.W.plainGet_of hg).1 (PySem.W.findObj_cls hh ha hn hv' hc (by rw [hl, hv])) hv' h

theorem get_meth {pl : Sem Bool} {Q : Value × List Value → Shared → Prop} (X : K.In s.heap) (I : ObjM s.heap x dx C mA) (hg : PySem.W.plainGet K C name = true)
    (hf : PySem.W.findIn K (.ref C) name = some (some (.ref f))) (ht : PySem.W.isFn K (.ref f) = true) (hv : mA name = none) (h : Q (.ref f, [.ref x]) s) :
    wpAny (model prog w) A (getMethod (.ref x) name pl) Q E s := by
  obtain ⟨od, J, hl⟩ := I.look
  exact PySem.W.method_fn X J (PySem.W.plainGet_of hg).1 (PySem.W.plainGet_of hg).2 hf (beq_iff_eq.mp ht) (by show (PySem.W.lookIn name od).map (·.isSome) = some false; rw [hl, hv]; rfl) h

theorem set_map {ns : List Str} {Q : Unit → Shared → Prop} (X : K.In s.heap) (I : ObjM s.heap x dx C mA)
    (hs : PySem.W.findIn K (.ref C) "__setattr__" = some (some (.builtin "object.__setattr__"))) (hp : PySem.W.plainOver K C = true) (ht : PySem.W.takerIn K C name = some none) (hh : PySem.W.hasDictIn K C = true)
    (hw : PySem.Within mA ns) (hsz : ns.length ≤ sizeLine)
    (h : ∀ h', ObjM h' x dx C (fun y => if y = name then some v else mA y) → Heap.SameBut dx s.heap h' → Q () { s with heap := h', toks := s.toks + 2 }) :
    wpAny (model prog w) A (setAttr (.ref x) name v) Q E s := by
  obtain ⟨od, J, hl⟩ := I.look
  refine PySem.W.set_plain X J hs (PySem.W.osa_open (s := { s with toks := s.toks + 1 }) (r := none) X J hp ht fun b => ?_)
  obtain ⟨cd, hc, hd'⟩ := PySem.W.any_some hh
  have hx : s.heap.get? x = some ⟨.ref C, some dx, .plain, #[]⟩ := I.obj
  refine wpAny_bind (wpAny_pure (wpAny_bind (wpAny_bind (wpAny_loadPart hx (wpAny_bind (PySem.W.Looks.here (s := { s with toks := s.toks + 1 }) (PySem.W.looks_clsIn X hc) ?_))))))
  rw [hd']
  refine wpAny_pure (a := some dx) (wpAny_bind (wpAny_pure (wpAny_bind ?_)))
  refine wpAny_nsSet1 (s := { s with toks := s.toks + 1 }) I.ns fun h' hn2 hs2 => ?_
  obtain ⟨oD, esD, epD, hoD, hdD, hcD⟩ := hn2.count (PySem.Within.cons name v hw)
  refine wpAny_bind (wpAny_lookBehind hoD (by rw [hdD]; exact pastItsLine_dict (Nat.le_trans hcD (by rw [List.length_cons]; omega))) ?_)
  exact wpAny_pure (h _ ⟨(hs2.2 _ (Ne.symm I.ne)).trans I.obj, hn2, I.ne⟩ hs2)

/-- C(..): the dict at the heap's end, the instance behind it; then its __init__ -/
theorem make_map {R : Result → Shared → Prop} {vs : List Value} {kw : List (Str × Value)} (X : K.In s.heap) (hm : PySem.W.makesIn K C = true)
    (hi : PySem.W.findIn K (.ref C) "__init__" = some (some (.ref f))) (hf : PySem.W.typeIn K (.ref f) = some (.type "function"))
    (h : codeAny (model prog w) (A.under (.builtin "type.__call__" ⟨.ref C :: vs, kw⟩)) (.call (.ref f) ⟨.ref (s.heap.objs.size + 1) :: vs, kw⟩) (PySem.W.InitBack (s.heap.objs.size + 1) R)
      { s with heap := (s.heap.push PySem.W.emptyDict).push (PySem.W.instObj C s.heap.objs.size) }) :
    codeAny (model prog w) A (.call (.ref C) ⟨vs, kw⟩) R s := by
  obtain ⟨hh, g, d, t, os⟩ := s
  exact PySem.W.make_core (PySem.W.makes_of X hm) (PySem.W.looks_findIn X hi) (fun self => PySem.W.bind_fn X self hf) (.inl rfl) h
/-- C() where there is no __init__ but object's -/
theorem make_map0 {R : Result → Shared → Prop} (X : K.In s.heap) (hm : PySem.W.makesIn K C = true)
    (hi : PySem.W.findIn K (.ref C) "__init__" = some (some (.builtin "object.__init__")))
    (hb : ∀ self, PySem.W.Looks (model prog w) s.heap (bindSpecial (.builtin "object.__init__") self) (.builtin "object.__init__", [self]))
    (h : codeAny (model prog w) (A.under (.builtin "type.__call__" ⟨[.ref C], []⟩)) (.call (.builtin "object.__init__") ⟨[.ref (s.heap.objs.size + 1)], []⟩) (PySem.W.InitBack (s.heap.objs.size + 1) R)
      { s with heap := (s.heap.push PySem.W.emptyDict).push (PySem.W.instObj C s.heap.objs.size) }) :
    codeAny (model prog w) A (.call (.ref C) ⟨[], []⟩) R s := by
  obtain ⟨hh, g, d, t, os⟩ := s
  exact PySem.W.make_core (PySem.W.makes_of X hm) (PySem.W.looks_findIn X hi) hb (.inr ⟨rfl, rfl⟩) h
end

/-! ### the attributes as a list of pairs -/
def putF (f : Str) (v : V) : List (Str × V) → List (Str × V)
  | [] => [(f, v)]
  | (g, x) :: r => if g = f then (g, v) :: r else (g, x) :: putF f v r
theorem lookup_putF (f g : Str) (v : V) : ∀ fs : List (Str × V), (putF f v fs).lookup g = if g = f then some v else fs.lookup g
  | [] => by
    show List.lookup g [(f, v)] = _
    by_cases h : g = f
    · have hb : (g == f) = true := beq_iff_eq.mpr h
      simp only [List.lookup, hb, if_pos h]
    · have hb : (g == f) = false := beq_eq_false_iff_ne.mpr h
      simp only [List.lookup, hb, if_neg h]
  | (k, x) :: r => by
    have ih := lookup_putF f g v r
    rw [show putF f v ((k, x) :: r) = (if k = f then (k, v) :: r else (k, x) :: putF f v r) from rfl]
    by_cases hk : k = f
    · rw [if_pos hk]
      by_cases h : g = k
      · have hb : (g == k) = true := beq_iff_eq.mpr h
        simp only [List.lookup, hb, if_pos (h.trans hk)]
      · have hb : (g == k) = false := beq_eq_false_iff_ne.mpr h
        simp only [List.lookup, hb, if_neg (fun e : g = f => h (e.trans hk.symm))]
    · rw [if_neg hk]
      by_cases h : g = k
      · have hb : (g == k) = true := beq_iff_eq.mpr h
        simp only [List.lookup, hb, if_neg (fun e : g = f => hk (h.symm.trans e))]
      · have hb : (g == k) = false := beq_eq_false_iff_ne.mpr h
        simp only [List.lookup, hb]
        exact ih
theorem keys_putF (f : Str) (v : V) : ∀ fs : List (Str × V), f ∈ (putF f v fs).map (·.1) ∧ ∀ g, g ∈ fs.map (·.1) → g ∈ (putF f v fs).map (·.1)
  | [] => ⟨by simp [putF], fun g h => by simp at h⟩
  | (k, x) :: r => by
    obtain ⟨i1, i2⟩ := keys_putF f v r
    rw [show putF f v ((k, x) :: r) = (if k = f then (k, v) :: r else (k, x) :: putF f v r) from rfl]
    by_cases hk : k = f
    · rw [if_pos hk]
      subst hk
      exact ⟨by simp, fun g h => by simpa using h⟩
    · rw [if_neg hk]
      refine ⟨?_, fun g h => ?_⟩
      · rw [List.map_cons]
        exact List.mem_cons_of_mem _ i1
      · rw [List.map_cons] at h ⊢
        rcases List.mem_cons.mp h with e | e
        · exact List.mem_cons.mpr (.inl e)
        · exact List.mem_cons_of_mem _ (i2 g e)
theorem length_putF (f : Str) (v : V) : ∀ fs : List (Str × V), (putF f v fs).length ≤ fs.length + 1
  | [] => by simp [putF]
  | (k, x) :: r => by
    have ih := length_putF f v r
    rw [show putF f v ((k, x) :: r) = (if k = f then (k, v) :: r else (k, x) :: putF f v r) from rfl]
    by_cases hk : k = f
    · rw [if_pos hk, List.length_cons, List.length_cons]; omega
    · rw [if_neg hk, List.length_cons, List.length_cons]; omega

theorem RelO.some_of {v : V} {o : Option Value} (r : RelO (some v) o) : ∃ u, o = some u ∧ RelV v u := by
  cases o with
  | none => exact (show False from r).elim
  | some u => exact ⟨u, rfl, r⟩
theorem RelO.none_of {o : Option Value} (r : RelO none o) : o = none := by
  cases o with
  | none => rfl
  | some u => exact (show False from r).elim
theorem handed_of {v : V} {u : Value} (r : RelV v u) : PySem.W.handedIn u = true := by
  cases v with
  | non => cases (show u = Value.none from r); rfl
  | bl b => cases (show u = Value.bool b from r); rfl
  | int i => obtain ⟨t, e⟩ := (show ∃ t, u = Value.int i t from r); cases e; rfl
  | str x => obtain ⟨t, e⟩ := (show ∃ t, u = Value.str x t from r); cases e; rfl
  | byt b => obtain ⟨t, e⟩ := (show ∃ t, u = Value.bytes b t from r); cases e; rfl
  | flt b => obtain ⟨t, e⟩ := (show ∃ t, u = Value.float b t from r); cases e; rfl
  | ref a => cases (show u = Value.ref a from r); rfl
  | ty n => cases (show u = Value.type n from r); rfl

section
variable {P : Program} {w : World} {H H' : Hp} {h h' : Heap} {a C dx : Addr} {fs fs' : List (Str × V)}
theorem ins_get (hok : HOk P w H h) (e : H a = some (.ins C dx fs)) : ∃ mA, ObjM h a dx C mA ∧ (∀ f, RelO (fs.lookup f) (mA f)) ∧ PySem.Within mA (fs.map (·.1)) ∧ fs.length ≤ 1000 ∧ H dx = some (.own a) := by
  obtain ⟨d, z, ne, ob, mA, n, r, q⟩ := (show ObjOk P w H h a (.ins C dx fs) from hok a _ e)
  exact ⟨mA, ⟨ob, n, ne⟩, r, q, z, d⟩
end

/-! ### what of the text a class must have -/
structure Cls (K : PySem.W.Frag) (C : Addr) : Prop where
  pg : PySem.W.plainGet K C Str.empty = true
  hd : PySem.W.hasDictIn K C = true
  po : PySem.W.plainOver K C = true
  sa : PySem.W.findIn K (.ref C) "__setattr__" = some (some (.builtin "object.__setattr__"))
theorem Cls.get {K : PySem.W.Frag} {C : Addr} (c : Cls K C) (f : Str) : PySem.W.plainGet K C f = true := c.pg
/-- no class of it has the name -/
def NoAttr (K : PySem.W.Frag) (C : Addr) (f : Str) : Prop := PySem.W.findIn K (.ref C) f = some none
theorem NoAttr.taker {K : PySem.W.Frag} {C : Addr} {f : Str} (n : NoAttr K C f) : PySem.W.takerIn K C f = some none := by
  unfold PySem.W.takerIn
  rw [show PySem.W.findIn K (.ref C) f = some none from n]
  rfl
/-- a constant of the class -/
structure Con (K : PySem.W.Frag) (C : Addr) (f : Str) (v : V) (u : Value) : Prop where
  at_ : PySem.W.findIn K (.ref C) f = some (some u)
  rel : RelV v u
  get : PySem.W.specialIn K u "__get__" = some none
  cp : PySem.W.copiedNames.contains f = false
/-- a method: a plain def of the class or of one above it -/
structure Meth (K : PySem.W.Frag) (C : Addr) (m : Str) (f : Addr) : Prop where
  at_ : PySem.W.findIn K (.ref C) m = some (some (.ref f))
  fn : PySem.W.isFn K (.ref f) = true
  kp : PySem.W.keepIn K (.ref f) = true

section
variable {X : Cx} {pins : List (Addr × Obj)} {σ : St} {H : Hp} {s : Shared} {a C dx : Addr} {fs : List (Str × V)} {f : Str} {v : V} {A : Around} {E : Value → Shared → Prop}

theorem getattr_ok {b : Bool} {Q : Value → Shared → Prop} (I : Inv X pins σ H s) (e : H a = some (.ins C dx fs)) (c : Cls X.K C) (n : NoAttr X.K C f) (l : fs.lookup f = some v)
    (h : ∀ u s', Inv X pins σ H s' → RelV v u → Q u s') : wpAny (model X.prog X.w) A (getAttr (.ref a) f b) Q E s := by
  obtain ⟨mA, O, r, _, _, _⟩ := ins_get I.hok e
  obtain ⟨u, hu, ru⟩ := RelO.some_of (v := v) (o := mA f) (by rw [← l]; exact r f)
  exact get_map I.kIn O (c.get f) c.hd n hu (handed_of ru) (h u _ (I.tok _) ru)

theorem getcon_ok {b : Bool} {u : Value} {Q : Value → Shared → Prop} (I : Inv X pins σ H s) (e : H a = some (.ins C dx fs)) (c : Cls X.K C) (k : Con X.K C f v u) (l : fs.lookup f = none)
    (h : ∀ s', Inv X pins σ H s' → Q u s') : wpAny (model X.prog X.w) A (getAttr (.ref a) f b) Q E s := by
  obtain ⟨mA, O, r, _, _, _⟩ := ins_get I.hok e
  have hn : mA f = none := RelO.none_of (by rw [← l]; exact r f)
  exact get_const I.kIn O (c.get f) c.hd k.at_ k.get k.cp hn (handed_of k.rel) (h _ (I.tok _))

theorem getmeth_ok {m : Str} {g : Addr} {pl : Sem Bool} {Q : Value × List Value → Shared → Prop} (I : Inv X pins σ H s) (e : H a = some (.ins C dx fs)) (c : Cls X.K C) (k : Meth X.K C m g) (l : fs.lookup m = none)
    (h : Q (.ref g, [.ref a]) s) : wpAny (model X.prog X.w) A (getMethod (.ref a) m pl) Q E s := by
  obtain ⟨mA, O, r, _, _, _⟩ := ins_get I.hok e
  have hn : mA m = none := RelO.none_of (by rw [← l]; exact r m)
  exact get_meth I.kIn O (c.get m) k.at_ k.fn hn h

theorem setattr_ok {y : V} {u : Value} {Q : Unit → Shared → Prop} (I : Inv X pins σ H s) (e : H a = some (.ins C dx fs)) (c : Cls X.K C) (n : NoAttr X.K C f) (hl : fs.length < 1000) (ry : RelV y u)
    (h : ∀ s', Inv X pins σ (upd H a (.ins C dx (putF f y fs))) s' → Q () s') : wpAny (model X.prog X.w) A (setAttr (.ref a) f u) Q E s := by
  obtain ⟨mA, O, r, wi, _, ho⟩ := ins_get I.hok e
  have hz : (fs.map (·.1)).length ≤ sizeLine := by rw [List.length_map, sizeLine_eq]; omega
  refine set_map I.kIn O c.sa c.po n.taker c.hd wi hz fun h' O' sb => h _ ?_
  have hd : ∃ o, h'.get? dx = some o := let ⟨o, _, _, e', _⟩ := O'.ns; ⟨o, e'⟩
  refine I.write (x := a) (e := dx) (by rw [e]; exact True.intro) (.inr ho) (fun b q hb z => (sb.2 b hb).trans z) hd ?_
  refine ⟨by rw [upd_ne O.ne]; exact ho, ?_, O.ne, O'.obj, _, O'.ns, fun g => ?_, fun g hg => ?_⟩
  · have := length_putF f y fs; omega
  · show RelO ((putF f y fs).lookup g) (if g = f then some u else mA g)
    rw [lookup_putF]
    by_cases q : g = f
    · rw [if_pos q, if_pos q]; exact ry
    · rw [if_neg q, if_neg q]; exact r g
  · by_cases q : g = f
    · rw [q]; exact (keys_putF f y fs).1
    · refine (keys_putF f y fs).2 g (wi g fun z => hg ?_)
      show (if g = f then some u else mA g) = none
      rw [if_neg q]; exact z

/-- a new instance, tracked, without attributes -/
theorem Inv.made (I : Inv X pins σ H s) : Inv X pins σ (upd (upd H s.heap.objs.size (.own (s.heap.objs.size + 1))) (s.heap.objs.size + 1) (.ins C s.heap.objs.size []))
    { s with heap := (s.heap.push PySem.W.emptyDict).push (PySem.W.instObj C s.heap.objs.size) } := by
  have e1 : (s.heap.push PySem.W.emptyDict).get? s.heap.objs.size = some PySem.W.emptyDict := Heap.get?_push_size s.heap rfl
  have e2 : ((s.heap.push PySem.W.emptyDict).push (PySem.W.instObj C s.heap.objs.size)).get? (s.heap.objs.size + 1) = some (PySem.W.instObj C s.heap.objs.size) := by
    have := Heap.get?_push_size (s.heap.push PySem.W.emptyDict) (o := PySem.W.instObj C s.heap.objs.size) rfl
    rwa [Heap.size_push] at this
  have e3 : (s.heap.push PySem.W.emptyDict).Ns s.heap.objs.size (fun _ => none) := ⟨PySem.W.emptyDict, #[], _, e1, rfl, (fun e he => absurd he (by simp)), fun _ => rfl⟩
  have I1 := I.laid (a := s.heap.objs.size) (o := .own (s.heap.objs.size + 1)) (h' := s.heap.push PySem.W.emptyDict) (t' := s.toks) (fun b u q => Heap.get?_push_of_some _ q) (Nat.le_refl _) ⟨_, e1⟩
  refine I1.laid (a := s.heap.objs.size + 1) (o := .ins C s.heap.objs.size []) (t' := s.toks) (fun b u q => Heap.get?_push_of_some _ q) (Nat.le_of_eq (Heap.size_push _ _)) ?_
  have ne : s.heap.objs.size ≠ s.heap.objs.size + 1 := Nat.ne_of_lt (Nat.lt_succ_self _)
  refine ⟨by rw [upd_ne ne, upd_same], Nat.zero_le _, ne, e2, fun _ => none, (Heap.Ns1.of_empty e3).at fun o q => Heap.get?_push_of_some _ q, fun _ => True.intro, fun y hy => absurd rfl hy⟩

/-- e.f where nothing but the object is asked: through attributeBase (super) and the last hold -/
theorem attr_of {prog : Program} {w : World} {env : Env} {e : Expr} {f : Str} {pos : Pos} {s : Shared} {Q : Value → Shared → Prop} (hb : attributeBase e f env (eval e env) = eval e env)
    (h : wpAny (model prog w) A (eval e env) (fun o s₁ => wpAny (model prog w) A (getAttr o f true) Q E s₁) E s) : wpAny (model prog w) A (eval (.Attribute e f pos) env) Q E s :=
  Attribute_any_ h (by rw [arm_eval_Attribute, hb])
end

/-! ### readings and rules -/
/-- e.f, an attribute of the instance -/
def tFld (K : PySem.W.Frag) (ta : TE) (f : Str) : TE := fun σ H Q => ta σ H fun x H1 => ∃ a C dx fs v, x = .ref a ∧ H1 a = some (.ins C dx fs) ∧ Cls K C ∧ NoAttr K C f ∧ fs.lookup f = some v ∧ Q v H1
/-- e.f, a constant of the class -/
def tCon (K : PySem.W.Frag) (ta : TE) (f : Str) : TE := fun σ H Q => ta σ H fun x H1 => ∃ a C dx fs v u, x = .ref a ∧ H1 a = some (.ins C dx fs) ∧ Cls K C ∧ Con K C f v u ∧ fs.lookup f = none ∧ Q v H1
/-- e.f = value -/
def sFld (K : PySem.W.Frag) (ta tv : TE) (f : Str) : TS := fun D σ H => tv σ H fun y H1 => ta σ H1 fun x H2 => ∃ a C dx fs, x = .ref a ∧ H2 a = some (.ins C dx fs) ∧ Cls K C ∧ NoAttr K C f ∧ fs.length < 1000 ∧
  D.nx σ (upd H2 a (.ins C dx (putF f y fs)))
/-- an augmented operator on two values -/
def InOp (X : Cx) (op : Operator) (rd : V → V → Hp → VK → Prop) : Prop :=
  ∀ (pins : List (Addr × Obj)) (s : Shared) (σ : St) (H : Hp) (x y : V) (u v : Value) (Q : VK), Inv X pins σ H s → RelV x u → RelV y v → rd x y H Q → wpAny (model X.prog X.w) X.A (inplaceOp op u v) (EP X pins σ Q) X.xe s
/-- e.f op= value -/
def sFldAug (K : PySem.W.Frag) (ta tv : TE) (rd : V → V → Hp → VK → Prop) (f : Str) : TS := fun D σ H => ta σ H fun x H1 => ∃ a C dx fs v, x = .ref a ∧ H1 a = some (.ins C dx fs) ∧ Cls K C ∧ NoAttr K C f ∧ fs.lookup f = some v ∧
  tv σ H1 fun y H2 => rd v y H2 fun z H3 => ∃ dx' fs', H3 a = some (.ins C dx' fs') ∧ fs'.length < 1000 ∧ D.nx σ (upd H3 a (.ins C dx' (putF f z fs')))

section
variable {X : Cx} {o e value : Expr} {f : Str} {pos pos' tpos : Pos} {ta tv : TE}
theorem pe_fld (he : PE X e ta) (hb : attributeBase e f X.env (eval e X.env) = eval e X.env) : PE X (.Attribute e f pos) (tFld X.K ta f) := by
  intro pins s σ H Q I h
  refine attr_of hb (thn (he pins s σ H _ I h) fun u s1 ⟨x, H1, I1, rx, a, C, dx, fs, v, ex, ea, c, n, l, q⟩ => ?_)
  subst ex
  obtain rfl : u = Value.ref a := rx
  exact getattr_ok I1 ea c n l fun u' s2 I2 ru => ⟨v, H1, I2, ru, q⟩
theorem pe_con (he : PE X e ta) (hb : attributeBase e f X.env (eval e X.env) = eval e X.env) : PE X (.Attribute e f pos) (tCon X.K ta f) := by
  intro pins s σ H Q I h
  refine attr_of hb (thn (he pins s σ H _ I h) fun u s1 ⟨x, H1, I1, rx, a, C, dx, fs, v, u0, ex, ea, c, k, l, q⟩ => ?_)
  subst ex
  obtain rfl : u = Value.ref a := rx
  exact getcon_ok I1 ea c k l fun s2 I2 => ⟨v, H1, I2, k.rel, q⟩
theorem ps_fld (ha : PE X o ta) (hv : PE X value tv) (hs : swapsWith value (some (.Attribute o f pos')) pos.line X.env = pure false) : PS X (.Assign [.Attribute o f pos'] value pos) (sFld X.K ta tv f) := by
  intro pins s σ H D I h
  refine plainObj_wpAny_Assign_Attribute (thn (hv pins s σ H _ I h) fun u s1 ⟨y, H1, I1, ry, q⟩ => thn (ha pins s1 σ H1 _ I1 q) fun ov s2 ⟨x, H2, I2, rx, a, C, dx, fs, ex, ea, c, n, l, q2⟩ => ?_) hs
  subst ex
  obtain rfl : ov = Value.ref a := rx
  exact setattr_ok I2 ea c n l ry fun s3 I3 => ⟨σ, _, I3, q2⟩
theorem ps_fldaug {op : Operator} {rd : V → V → Hp → VK → Prop} (ha : PE X o ta) (hv : PE X value tv) (hop : InOp X op rd) : PS X (.AugAssign (.Attribute o f tpos) op value pos) (sFldAug X.K ta tv rd f) := by
  intro pins s σ H D I h
  refine wpAny_AugAssign_AttributeAny (thn (ha pins s σ H _ I h) fun ov s1 ⟨x, H1, I1, rx, a, C, dx, fs, v, ex, ea, c, n, l, q⟩ => ?_)
  subst ex
  obtain rfl : ov = Value.ref a := rx
  refine getattr_ok I1 ea c n l fun u s2 I2 ru => thn (hv pins s2 σ H1 _ I2 q) fun w3 s3 ⟨y, H2, I3, ry, q3⟩ => thn (hop pins s3 σ H2 v y u w3 _ I3 ru ry q3) fun w4 s4 ⟨z, H3, I4, rz, dx', fs', ea', l', q4⟩ => ?_
  exact setattr_ok I4 ea' c n l' rz fun s5 I5 => ⟨σ, _, I5, q4⟩
def rAdd : V → V → Hp → VK → Prop := fun x y H Q => ∃ i j, x = .int i ∧ y = .int j ∧ Q (.int (i + j)) H
def rSub : V → V → Hp → VK → Prop := fun x y H Q => ∃ i j, x = .int i ∧ y = .int j ∧ Q (.int (i - j)) H
theorem in_add : InOp X .Add rAdd := by
  rintro pins s σ H x y u v Q I rx ry ⟨i, j, rfl, rfl, q⟩
  obtain ⟨t, rfl⟩ := (show ∃ t, u = Value.int i t from rx)
  obtain ⟨t', rfl⟩ := (show ∃ t', v = Value.int j t' from ry)
  exact PyProof.Rows.iadd_int ⟨.int (i + j), H, I.tok _, ⟨_, rfl⟩, q⟩
theorem in_sub : InOp X .Sub rSub := by
  rintro pins s σ H x y u v Q I rx ry ⟨i, j, rfl, rfl, q⟩
  obtain ⟨t, rfl⟩ := (show ∃ t, u = Value.int i t from rx)
  obtain ⟨t', rfl⟩ := (show ∃ t', v = Value.int j t' from ry)
  exact PyProof.Rows.isub_int ⟨.int (i - j), H, I.tok _, ⟨_, rfl⟩, q⟩

/-- what is between an instance and its method: the tree of a method call -/
theorem methcall_of {pl : Sem Bool} {m : Str} {apos : Pos} {args : List Expr} {pins : List (Addr × Obj)} {s : Shared} {σ : St} {H : Hp} {Q : Value → Shared → Prop} {te : TE} (he : PE X e te) (I : Inv X pins σ H s)
    (h : te σ H fun x H1 => ∃ a C dx fs g, x = .ref a ∧ H1 a = some (.ins C dx fs) ∧ Cls X.K C ∧ Meth X.K C m g ∧ fs.lookup m = none ∧
      ∀ s1, Inv X pins σ H1 s1 → wpAny (model X.prog X.w) X.A (callWith pos (.ref g) [.ref a] (backTo pos (starEach args X.env)) (backToKw pos (keywordEach [] X.env))) Q X.xe s1)
    (ht : eval (.Call (.Attribute e m apos) args [] pos) X.env = (do
      let ov ← eval e X.env
      standAt apos.atName
      let (f, first) ← holding [ov] (getMethod ov m pl)
      callWith pos f first (backTo pos (starEach args X.env)) (backToKw pos (keywordEach [] X.env)))) :
    wpAny (model X.prog X.w) X.A (eval (.Call (.Attribute e m apos) args [] pos) X.env) Q X.xe s := by
  refine PySem.W.methodCall_KW (pl := pl) (thn (he pins s σ H _ I h) fun u s1 ⟨x, H1, I1, rx, a, C, dx, fs, g, ex, ea, c, k, l, q⟩ => ?_) ht
  subst ex
  obtain rfl : u = Value.ref a := rx
  exact getmeth_ok I1 ea c k l (q s1 I1)
end

/-! ### isinstance -/
section
variable {X : Cx} {pins : List (Addr × Obj)} {σ : St} {H : Hp} {s : Shared} {A : Around} {E : Value → Shared → Prop} {Q : Value → Shared → Prop} {c : Value} {b : Bool}
/-- the type of a value, as the fragment's deciders take it; for an instance its class -/
inductive TyOf (K : PySem.W.Frag) (H : Hp) : V → Value → Prop where
  | non : TyOf K H .non (.type "NoneType")
  | bl (x : Bool) : TyOf K H (.bl x) (.type "bool")
  | int (i : Int) : TyOf K H (.int i) (.type "int")
  | str (x : Str) : TyOf K H (.str x) (.type "str")
  | flt (x : UInt64) : TyOf K H (.flt x) (.type "float")
  | lst {a : Addr} {xs : List V} (e : H a = some (.lst xs)) : TyOf K H (.ref a) (.type "list")
  | frz {a : Addr} {o : Obj} {xs : List V} (e : H a = some (.frz o (.lst xs))) : TyOf K H (.ref a) (.type "list")
  | tup {a : Addr} {xs : List V} (e : H a = some (.tup xs)) : TyOf K H (.ref a) (.type "tuple")
  | dK {a : Addr} {kvs : List (Key × V)} (e : H a = some (.dK kvs)) : TyOf K H (.ref a) (.type "dict")
  | dT {a : Addr} {kvs : List (List Key × V)} (e : H a = some (.dT kvs)) : TyOf K H (.ref a) (.type "dict")
  | ins {a C dx : Addr} {fs : List (Str × V)} (e : H a = some (.ins C dx fs)) (cl : Cls K C) (ha : PySem.W.findIn K (.ref C) "__class__" = some (some (.builtin "object.__class__")))
      (hn : PySem.W.specialIn K (.builtin "object.__class__") "__get__" = some (some (.builtin "getset_descriptor.__get__"))) (htk : PySem.W.takesIn K (.builtin "object.__class__") = some true)
      (hm : PySem.W.mroIn K C (.type "object") = some true) : TyOf K H (.ref a) (.ref C)
/-- isinstance(x, c) for one class c, a built-in or an own one: kitOne's answer -/
theorem isinst_ok {x : V} {u t : Value} (I : Inv X pins σ H s) (rx : RelV x u) (ty : TyOf X.K H x t) (e : PySem.W.kitOne X.K t c = some b) (h : ∀ tk, Q (.bool b) { s with toks := tk }) :
    wpAny (model X.prog X.w) A (call (.builtin "isinstance") [u, c]) Q E s := by
  cases ty with
  | non => cases (show u = Value.none from rx); exact PySem.W.kia_one PySem.W.kitx_none I.kIn True.intro e (fun z => nomatch z) h
  | bl y => cases (show u = Value.bool y from rx); exact PySem.W.kia_one PySem.W.kitx_bool I.kIn True.intro e (fun z => nomatch z) h
  | int i => obtain ⟨t, q⟩ := (show ∃ t, u = Value.int i t from rx); cases q; exact PySem.W.kia_one PySem.W.kitx_int I.kIn True.intro e (fun z => nomatch z) h
  | str y => obtain ⟨t, q⟩ := (show ∃ t, u = Value.str y t from rx); cases q; exact PySem.W.kia_one PySem.W.kitx_str I.kIn True.intro e (fun z => nomatch z) h
  | flt y => obtain ⟨t, q⟩ := (show ∃ t, u = Value.float y t from rx); cases q; exact PySem.W.kia_one PySem.W.kitx_float I.kIn True.intro e (fun z => nomatch z) h
  | @lst a xs ea =>
    cases (show u = Value.ref a from rx)
    obtain ⟨_, _, n, _, h1⟩ := (show ObjOk X.prog X.w H s.heap a (.lst xs) from I.hok a _ ea)
    exact PySem.W.kia_one PySem.W.kitx_list I.kIn ⟨_, h1, rfl⟩ e (fun z => nomatch z) h
  | @frz a ob xs ea =>
    cases (show u = Value.ref a from rx)
    obtain ⟨_, _, _, n, _, h1⟩ := (show ObjOk X.prog X.w H s.heap a (.frz ob (.lst xs)) from I.hok a _ ea)
    exact PySem.W.kia_one PySem.W.kitx_list I.kIn ⟨_, h1, rfl⟩ e (fun z => nomatch z) h
  | @tup a xs ea =>
    cases (show u = Value.ref a from rx)
    obtain ⟨_, _, _, p⟩ := (show ObjOk X.prog X.w H s.heap a (.tup xs) from I.hok a _ ea)
    obtain ⟨o, h1, h2, _⟩ := p
    exact PySem.W.kia_one PySem.W.kitx_tuple I.kIn ⟨o, h1, h2⟩ e (fun z => nomatch z) h
  | @dK a kvs ea =>
    cases (show u = Value.ref a from rx)
    obtain ⟨_, _, vs, _, p⟩ := (show ObjOk X.prog X.w H s.heap a (.dK kvs) from I.hok a _ ea)
    obtain ⟨o, es, ep, h1, h2, _⟩ := p
    exact PySem.W.kia_one PySem.W.kitx_dict I.kIn ⟨o, h1, h2.1⟩ e (fun z => nomatch z) h
  | @dT a kvs ea =>
    cases (show u = Value.ref a from rx)
    obtain ⟨_, _, xs, _, o, es, ep, h1, h2, _⟩ := (show ObjOk X.prog X.w H s.heap a (.dT kvs) from I.hok a _ ea)
    exact PySem.W.kia_one PySem.W.kitx_dict I.kIn ⟨o, h1, h2.1⟩ e (fun z => nomatch z) h
  | @ins a C dx fs ea cl ha hn htk hm =>
    cases (show u = Value.ref a from rx)
    obtain ⟨mA, O, _⟩ := ins_get I.hok ea
    obtain ⟨od, J, _⟩ := O.look
    exact PySem.W.kia_one (PySem.W.kitx_own (cl.get _) cl.hd ha hn htk hm) I.kIn J e (fun z => nomatch z) h
end
end L2

namespace L2
open PySem PySem.Spec PyProof.Rows

/-! ### room -/
structure Room (k : Nat) (A : Around) : Prop where
  hd : A.handled = none
  dp : A.depth + 3 * k + 5 < recursionLimit
  un : A.units + 16 * k + 200 < cLine
theorem Room.mono {j k : Nat} {A : Around} (r : Room k A) (h : j ≤ k) : Room j A := ⟨r.hd, by have := r.dp; omega, by have := r.un; omega⟩
theorem Room.deeper {k : Nat} {A : Around} (r : Room (k + 1) A) (env : Env) : Room k (A.deeper env) :=
  ⟨r.hd, by have := r.dp; show A.depth + 1 + 3 * k + 5 < _; omega, by have := r.un; show A.units + 3 + 16 * k + 200 < _; omega⟩
theorem Room.in1 {k : Nat} {A : Around} (r : Room (k + 1) A) : Room k A.in1 :=
  ⟨r.hd, by have := r.dp; show A.depth + 3 * k + 5 < _; omega, by have := r.un; show A.units + 1 + 16 * k + 200 < _; omega⟩
theorem make_depth {A : Around} {C : Addr} {us : List Value} {kw : List (Str × Value)} : (A.under (.builtin "type.__call__" ⟨.ref C :: us, kw⟩)).depth = A.depth + 1 := by
  first | rfl | simp [Around.under, Code.weight, Code.isCreation, Code.isGuard, Code.isCaller, Code.frames, Code.isFrame, guardIds]
theorem make_units {A : Around} {C : Addr} {us : List Value} {kw : List (Str × Value)} : (A.under (.builtin "type.__call__" ⟨.ref C :: us, kw⟩)).units = A.units + 1 := by
  first | rfl | simp [Around.under, Code.cUnits, Code.frames, Code.isFrame]
theorem Room.make {k : Nat} {A : Around} (r : Room (k + 1) A) (C : Addr) (us : List Value) (kw : List (Str × Value)) : Room k (A.under (.builtin "type.__call__" ⟨.ref C :: us, kw⟩)) :=
  ⟨r.hd, by have := r.dp; rw [make_depth]; omega, by have := r.un; rw [make_units]; omega⟩
theorem Room.depth {k : Nat} {A : Around} (r : Room k A) : A.depth < recursionLimit := by have := r.dp; omega
theorem Room.units {k : Nat} {A : Around} (r : Room k A) : A.units + 64 < cLine := by have := r.un; omega
theorem Room.units0 {k : Nat} {A : Around} (r : Room k A) : A.units < cLine := by have := r.un; omega

/-! ### argument lists and displays -/
def tNil : TA := fun _ H Q => Q [] H
def tCons (ta : TE) (tr : TA) : TA := fun σ H Q => ta σ H fun x H1 => tr σ H1 fun xs H2 => Q (x :: xs) H2
section
variable {X : Cx} {e : Expr} {es : List Expr} {te : TE} {t : TA} {pos : Pos}
theorem pa_nil : PA X [] tNil := fun _ _ _ _ H Q I h => Calls.spliced_nil ⟨[], H, I, .nil, h⟩
theorem pa_cons (ha : PE X e te) (hr : PA X es t) (hs : starEach (e :: es) X.env = (false, eval e X.env) :: starEach es X.env := by rfl) : PA X (e :: es) (tCons te t) := by
  intro pos pins s σ H Q I h
  rw [hs]
  show wpAny _ _ (spliced ((false, eval e X.env) :: backTo pos (starEach es X.env))) _ _ s
  refine Calls.spliced_cons (thn (ha pins s σ H _ I h) fun u s1 ⟨x, H1, I1, r1, q1⟩ => ?_)
  exact thn (hr pos pins s1 σ H1 _ I1 q1) fun us s2 ⟨xs, H2, I2, r2, q2⟩ => ⟨x :: xs, H2, I2, .cons r1 r2, q2⟩

/-- a tuple, a list of written items -/
def tTup (t : TA) : TE := fun σ H Q => t σ H fun xs H1 => xs.length ≤ sizeLine ∧ ∀ p, H1 p = none → Q (.ref p) (upd H1 p (.tup xs))
def tLst (t : TA) : TE := fun σ H Q => t σ H fun xs H1 => xs.length ≤ sizeLine ∧ ∀ p, H1 p = none → Q (.ref p) (upd H1 p (.lst xs))
theorem pe_tup {x1} (h : PA X es t) : PE X (.Tuple es x1 pos) (tTup t) := by
  intro pins s σ H Q I hq
  refine wpAny_Tuple_spliced (thn (h pos pins s σ H _ I hq) fun us s1 ⟨xs, H1, I1, r, z, q⟩ => ⟨by rw [← r.length]; exact z, ?_⟩)
  have hf : H1 s1.heap.objs.size = none := I1.hok.fresh (Nat.le_refl _)
  refine ⟨.ref s1.heap.objs.size, upd H1 s1.heap.objs.size (.tup xs), I1.laid (t' := s1.toks) (fun b u e => Heap.get?_push_of_some _ e) (Nat.le_refl _) ?_, rfl, q _ hf⟩
  exact ⟨z, us, r, ⟨_, Heap.get?_push_size _ rfl, rfl, _, rfl⟩⟩
theorem pe_lst (h : PA X es t) : PE X (.List es pos) (tLst t) := by
  intro pins s σ H Q I hq
  refine wpAny_List_spliced (thn (h pos pins s σ H _ I hq) fun us s1 ⟨xs, H1, I1, r, z, q⟩ => ⟨by rw [← r.length]; exact z, ?_⟩)
  have hf : H1 s1.heap.objs.size = none := I1.hok.fresh (Nat.le_refl _)
  refine ⟨.ref s1.heap.objs.size, upd H1 s1.heap.objs.size (.lst xs), I1.laid (t' := s1.toks) (fun b u e => Heap.get?_push_of_some _ e) (Nat.le_refl _) ?_, rfl, q _ hf⟩
  exact ⟨z, us, 0, r, Heap.get?_push_size _ rfl⟩
end

/-! ### what a def promises -/
/-- a def's promise: the bound arguments in the parameters' order, the heap, the wanted end, the wanted exception -/
abbrev Sp := List V → Hp → VK → XK → Prop
/-- how an exception lies behind a call (file 08 gives it): the callers' frames, abstract heap and state ahead of the call, the wish, the exception, the state -/
abbrev CXT := List Env → Hp → Shared → XK → Value → Shared → Prop

/-- the state at a call -/
structure Env0 (P : Program) (w : World) (K : PySem.W.Frag) (mg : Str → Option Value) (base : Heap) (A : Around) (outer : List Env) (s : Shared) (H : Hp) : Prop where
  frames : A.frames = some outer
  mod : Mod K mg base
  bs : ∀ b o, base.get? b = some o → s.heap.get? b = some o ∧ H b = none
  bsz : base.objs.size ≤ s.heap.objs.size
  funs : s.heap.FunFrames base outer
  frf : ∀ b ∈ frs outer, H b = none
  hok : HOk P w H s.heap
  bare : AllBare s.gens
/-- a call's end -/
def CE (outer : List Env) (P : Program) (w : World) (H : Hp) (s : Shared) (Q : VK) (u : Value) (s' : Shared) : Prop :=
  ∃ v H', s'.os = s.os ∧ AllBare s'.gens ∧ Un (frs outer) [] H H' s.heap s'.heap ∧ HOk P w H' s'.heap ∧ RelV v u ∧ Q v H'
def CR (CX : CXT) (outer : List Env) (P : Program) (w : World) (H : Hp) (s : Shared) (Q : VK) (E : XK) (r : Result) (s' : Shared) : Prop :=
  match r with
  | .ok (.ret u) => CE outer P w H s Q u s'
  | .ok _ => False
  | .error e => CX outer H s E e s'
structure FnOk (P : Program) (w : World) (K : PySem.W.Frag) (mg : Str → Option Value) (base : Heap) (CX : CXT) (k : Nat) (f : Addr) (fd : FuncData) (ps : List Str) (sp : Sp) : Prop where
  len : ∀ vs H Q E, sp vs H Q E → vs.length = ps.length
  run : ∀ (A : Around) (outer : List Env) (s : Shared) (H : Hp) (args : Args) (us : List Value) (vs : List V) (Q : VK) (E : XK), Room k A → Env0 P w K mg base A outer s H → BindsTo s fd args (ps.zip us) → Vals vs us → sp vs H Q E →
    codeAny (model P w) A (.call (.ref f) args) (CR CX outer P w H s Q E) s
theorem FnOk.mono {P : Program} {w : World} {K : PySem.W.Frag} {mg : Str → Option Value} {base : Heap} {CX : CXT} {j k : Nat} {f : Addr} {fd : FuncData} {ps : List Str} {sp : Sp} (F : FnOk P w K mg base CX j f fd ps sp) (h : j ≤ k) :
    FnOk P w K mg base CX k f fd ps sp := ⟨F.len, fun A outer s H args us vs Q E hr => F.run A outer s H args us vs Q E (hr.mono h)⟩
/-- a weaker promise -/
theorem FnOk.imp {P : Program} {w : World} {K : PySem.W.Frag} {mg : Str → Option Value} {base : Heap} {CX : CXT} {k : Nat} {f : Addr} {fd : FuncData} {ps : List Str} {sp sp' : Sp} (F : FnOk P w K mg base CX k f fd ps sp)
    (h : ∀ vs H Q E, sp' vs H Q E → sp vs H Q E) : FnOk P w K mg base CX k f fd ps sp' :=
  ⟨fun vs H Q E q => F.len vs H Q E (h _ _ _ _ q), fun A outer s H args us vs Q E hr he hb hv hs => F.run A outer s H args us vs Q E hr he hb hv (h _ _ _ _ hs)⟩

theorem Env0.make {P : Program} {w : World} {K : PySem.W.Frag} {mg : Str → Option Value} {base : Heap} {A : Around} {outer : List Env} {s : Shared} {H : Hp} (e : Env0 P w K mg base A outer s H) (C : Addr) (us : List Value) (kw : List (Str × Value)) :
    Env0 P w K mg base (A.under (.builtin "type.__call__" ⟨.ref C :: us, kw⟩)) outer s H := ⟨by first | exact e.frames | (simpa [Around.under, Code.envs, Code.isFrame, pushEnvs] using e.frames), e.mod, e.bs, e.bsz, e.funs, e.frf, e.hok, e.bare⟩
theorem Env0.in1 {P : Program} {w : World} {K : PySem.W.Frag} {mg : Str → Option Value} {base : Heap} {A : Around} {outer : List Env} {s : Shared} {H : Hp} (e : Env0 P w K mg base A outer s H) :
    Env0 P w K mg base A.in1 outer s H := ⟨e.frames, e.mod, e.bs, e.bsz, e.funs, e.frf, e.hok, e.bare⟩

section
variable {X : Cx} {pins : List (Addr × Obj)} {σ : St} {H : Hp} {s s' : Shared}
/-- from a body: what a callee wants -/
theorem Inv.env0 (I : Inv X pins σ H s) : Env0 X.prog X.w X.K X.mg X.base X.A X.stack s H :=
  ⟨I.ok.frames, I.ok.mod, I.bs, Nat.le_trans I.ok.bsz I.sz, I.stack, I.stkFree, I.hok, I.bare⟩
/-- behind a call -/
theorem Inv.after {Q : VK} {u : Value} (I : Inv X pins σ H s) (h : CE X.stack X.prog X.w H s Q u s') : EP X pins σ Q u s' := by
  obtain ⟨v, H', os, bare, un, hok, r, q⟩ := h
  obtain ⟨hh, g, d, t, os'⟩ := s'
  obtain rfl : os' = s.os := os
  exact ⟨v, H', I.call (h' := hh) (g' := g) (d' := d) (t' := t) (ch := []) un hok bare (fun b z => absurd z (by simp)), r, q⟩
end

/-! ### calls -/
/-- f(..): the written arguments, then the defaults dvs; E: what is wanted of an exception -/
def tCall (sp : Sp) (dvs : List V) (E : XK) (t : TA) : TE := fun σ H Q => t σ H fun vs H1 => sp (vs ++ dvs) H1 Q E
/-- o.m(..) of an instance of the class at C -/
def tMeth (C : Addr) (m : Str) (sp : Sp) (dvs : List V) (E : XK) (ta : TE) (t : TA) : TE := fun σ H Q => ta σ H fun x H1 => ∃ a dx fs, x = .ref a ∧ H1 a = some (.ins C dx fs) ∧ fs.lookup m = none ∧
  t σ H1 fun vs H2 => sp (x :: (vs ++ dvs)) H2 Q E
/-- C(..): a new instance and its dict, then __init__ -/
def tMake (C : Addr) (sp : Sp) (dvs : List V) (E : XK) (t : TA) : TE := fun σ H Q => t σ H fun vs H1 => ∀ x dx, H1 x = none → H1 dx = none → dx ≠ x →
  sp (.ref x :: (vs ++ dvs)) (upd (upd H1 dx (.own x)) x (.ins C dx [])) (fun v H2 => v = .non ∧ Q (.ref x) H2) E

/-- how the parameters are bound: us the positional arguments, kw the keywords' values by name, ds the defaults that fill up -/
def Binds (K : PySem.W.Frag) (fd : FuncData) (ps : List Str) (ds : List Value) : Prop :=
  ∀ (s : Shared) (us : List Value), K.In s.heap → (us ++ ds).length = ps.length → BindsTo s fd ⟨us, []⟩ (ps.zip (us ++ ds))
/-- every parameter is given -/
theorem Binds.all {K : PySem.W.Frag} {fd : FuncData} {ps : List Str} (h : ∀ us : List Value, us.length = ps.length → bindArgs fd ⟨us, []⟩ = pure (ps.zip us)) : Binds K fd ps [] := fun s us _ hl => by
  rw [List.append_nil] at hl ⊢
  exact .of_eq (h us hl)

/-- an exception of a callee reaches what this body wants of exceptions -/
def Passes (CX : CXT) (X : Cx) (E : XK) : Prop := ∀ (pins : List (Addr × Obj)) (σ : St) (H : Hp) (s : Shared) (e : Value) (s' : Shared), Inv X pins σ H s → CX X.stack H s E e s' → X.xe e s'

section
variable {X : Cx} {CX : CXT} {k : Nat} {f C : Addr} {fd : FuncData} {ps : List Str} {sp : Sp} {dvs : List V} {ds : List Value} {E : XK} {x m : Str} {p pos apos : Pos} {e o : Expr} {es : List Expr} {ta : TE} {t : TA}

/-- the callee runs -/
theorem run_fn {pins : List (Addr × Obj)} {σ : St} {H : Hp} {s : Shared} {Q : VK} {us : List Value} {vs : List V} (F : FnOk X.prog X.w X.K X.mg X.base CX k f fd ps sp) (hr : Room k X.A) (hb : Binds X.K fd ps ds) (hd : Vals dvs ds) (hx : Passes CX X E)
    (I : Inv X pins σ H s) (r : Vals vs us) (h : sp (vs ++ dvs) H Q E) : wpAny (model X.prog X.w) X.A (call (.ref f) us) (EP X pins σ Q) X.xe s := by
  have r2 : Vals (vs ++ dvs) (us ++ ds) := r.append hd
  have hl : (us ++ ds).length = ps.length := by rw [← r2.length]; exact F.len _ _ _ _ h
  refine wpAny_call (codeAny_mono (F.run X.A X.stack s H ⟨us, []⟩ (us ++ ds) (vs ++ dvs) Q E hr I.env0 (hb s us I.kIn hl) r2 h) fun r s' hq => ?_)
  cases r with
  | error e => exact hx pins σ H s e s' I hq
  | ok fl =>
    cases fl with
    | ret u => exact I.after hq
    | next => exact False.elim hq
    | brk => exact False.elim hq
    | cont => exact False.elim hq

theorem pe_call (F : FnOk X.prog X.w X.K X.mg X.base CX k f fd ps sp) (hr : Room k X.A) (hg : Gl X x) (hm : X.mg x = some (.ref f)) (hk : PySem.W.keepIn X.K (.ref f) = true) (hb : Binds X.K fd ps ds) (hd : Vals dvs ds) (hx : Passes CX X E)
    (ha : PA X (e :: es) t) (hdb : (x == ("__debug__" : Str)) = false := by decide) (he : starEach (e :: es) X.env = (false, eval e X.env) :: starEach es X.env := by rfl) (hpl : (backTo pos (starEach es X.env)).any (·.1) = false := by rfl) :
    PE X (.Call (.Name x p) (e :: es) [] pos) (tCall sp dvs E t) := by
  intro pins s σ H Q I h
  refine wpAny_Call_Name_kw (ld_glob I hg hm ?_ hdb)
  refine PySem.W.callWith_K (h₀ := X.base) I.ok.mod.kin hk (thn (ha pos pins s σ H _ I h) fun us s1 ⟨vs, H1, I1, r, q⟩ => ⟨I1.kIn, ?_⟩) he hpl
  exact run_fn F hr hb hd hx I1 r q
theorem pe_call0 (F : FnOk X.prog X.w X.K X.mg X.base CX k f fd ps sp) (hr : Room k X.A) (hg : Gl X x) (hm : X.mg x = some (.ref f)) (hk : PySem.W.keepIn X.K (.ref f) = true) (hb : Binds X.K fd ps ds) (hd : Vals dvs ds) (hx : Passes CX X E)
    (hdb : (x == ("__debug__" : Str)) = false := by decide) : PE X (.Call (.Name x p) [] [] pos) (tCall sp dvs E tNil) := by
  intro pins s σ H Q I h
  refine wpAny_Call_Name_kw (ld_glob I hg hm ?_ hdb)
  exact PySem.W.callWith_K0 I.kIn hk (run_fn (us := []) F hr hb hd hx I .nil h)

/-- o.m(e, ..) -/
theorem pe_meth {pl : Sem Bool} (he : PE X o ta) (c : Cls X.K C) (hm : Meth X.K C m f) (F : FnOk X.prog X.w X.K X.mg X.base CX k f fd ps sp) (hr : Room k X.A) (hb : Binds X.K fd ps ds) (hd : Vals dvs ds) (hx : Passes CX X E) (ha : PA X (e :: es) t)
    (hst : starEach (e :: es) X.env = (false, eval e X.env) :: starEach es X.env := by rfl) (hpl : (backTo pos (starEach es X.env)).any (·.1) = false := by rfl)
    (ht : eval (.Call (.Attribute o m apos) (e :: es) [] pos) X.env = (do
      let ov ← eval o X.env
      standAt apos.atName
      let (f, first) ← holding [ov] (getMethod ov m pl)
      callWith pos f first (backTo pos (starEach (e :: es) X.env)) (backToKw pos (keywordEach [] X.env))) := by rfl) :
    PE X (.Call (.Attribute o m apos) (e :: es) [] pos) (tMeth C m sp dvs E ta t) := by
  intro pins s σ H Q I h
  refine PySem.W.methodCall_KW (pl := pl) (thn (he pins s σ H _ I h) fun u s1 ⟨x, H1, I1, rx, a, dx, fs, ex, ea, l, q⟩ => ?_) ht
  subst ex
  obtain rfl : u = Value.ref a := rx
  refine getmeth_ok I1 ea c hm l ?_
  refine PySem.W.callWith_K (first := [.ref a]) (h₀ := X.base) I.ok.mod.kin hm.kp (thn (ha pos pins s1 σ H1 _ I1 q) fun us s2 ⟨vs, H2, I2, r, q2⟩ => ⟨I2.kIn, ?_⟩) hst hpl
  exact run_fn (us := .ref a :: us) (vs := .ref a :: vs) F hr hb hd hx I2 (.cons rfl r) q2
/-- o.m() -/
theorem pe_meth0 {pl : Sem Bool} (he : PE X o ta) (c : Cls X.K C) (hm : Meth X.K C m f) (F : FnOk X.prog X.w X.K X.mg X.base CX k f fd ps sp) (hr : Room k X.A) (hb : Binds X.K fd ps ds) (hd : Vals dvs ds) (hx : Passes CX X E)
    (ht : eval (.Call (.Attribute o m apos) [] [] pos) X.env = (do
      let ov ← eval o X.env
      standAt apos.atName
      let (f, first) ← holding [ov] (getMethod ov m pl)
      callWith pos f first (backTo pos (starEach [] X.env)) (backToKw pos (keywordEach [] X.env))) := by rfl) :
    PE X (.Call (.Attribute o m apos) [] [] pos) (tMeth C m sp dvs E ta tNil) := by
  intro pins s σ H Q I h
  refine PySem.W.methodCall_KW (pl := pl) (thn (he pins s σ H _ I h) fun u s1 ⟨x, H1, I1, rx, a, dx, fs, ex, ea, l, q⟩ => ?_) ht
  subst ex
  obtain rfl : u = Value.ref a := rx
  refine getmeth_ok I1 ea c hm l ?_
  exact PySem.W.callWith_K0 (first := [.ref a]) I1.kIn hm.kp (run_fn (us := [.ref a]) (vs := [.ref a]) F hr hb hd hx I1 (.cons rfl .nil) q)

/-- what a class must have to be made -/
structure Mk (K : PySem.W.Frag) (C f : Addr) : Prop where
  makes : PySem.W.makesIn K C = true
  init : PySem.W.findIn K (.ref C) "__init__" = some (some (.ref f))
  fn : PySem.W.isFn K (.ref f) = true
  kp : PySem.W.keepIn K (.ref C) = true

theorem run_make {pins : List (Addr × Obj)} {σ : St} {H : Hp} {s : Shared} {Q : VK} {us : List Value} {vs : List V} (M : Mk X.K C f) (F : FnOk X.prog X.w X.K X.mg X.base CX k f fd ps sp) (hr : Room (k + 1) X.A) (hb : Binds X.K fd ps ds) (hd : Vals dvs ds)
    (hx : Passes CX X E) (I : Inv X pins σ H s) (r : Vals vs us)
    (h : ∀ x dx, H x = none → H dx = none → dx ≠ x → sp (.ref x :: (vs ++ dvs)) (upd (upd H dx (.own x)) x (.ins C dx [])) (fun v H2 => v = .non ∧ Q (.ref x) H2) E) :
    wpAny (model X.prog X.w) X.A (call (.ref C) us) (EP X pins σ Q) X.xe s := by
  have hq := h (s.heap.objs.size + 1) s.heap.objs.size (I.hok.fresh (Nat.le_succ _)) (I.hok.fresh (Nat.le_refl _)) (Nat.ne_of_lt (Nat.lt_succ_self _))
  have I2 := Inv.made (C := C) I
  have r2 : Vals (V.ref (s.heap.objs.size + 1) :: (vs ++ dvs)) (Value.ref (s.heap.objs.size + 1) :: (us ++ ds)) := .cons rfl (r.append hd)
  have hl : (Value.ref (s.heap.objs.size + 1) :: us ++ ds).length = ps.length := by
    have e := r2.length
    rw [F.len _ _ _ _ hq] at e
    exact e.symm
  refine wpAny_call (make_map (f := f) I.kIn M.makes M.init (beq_iff_eq.mp M.fn) (codeAny_mono (F.run _ X.stack _ _ ⟨Value.ref (s.heap.objs.size + 1) :: us, []⟩ (Value.ref (s.heap.objs.size + 1) :: (us ++ ds)) _ _ E (hr.make C us [])
    (I2.env0.make C us []) (hb _ (Value.ref (s.heap.objs.size + 1) :: us) I2.kIn hl) r2 hq) fun r s' hq' => ?_))
  cases r with
  | error e => exact hx pins σ _ _ e s' I2 hq'
  | ok fl =>
    cases fl with
    | ret u =>
      obtain ⟨v, H', I3, rv, ev, q3⟩ := I2.after hq'
      subst ev
      exact ⟨rv, ⟨V.ref (s.heap.objs.size + 1), H', I3, rfl, q3⟩⟩
    | next => exact False.elim hq'
    | brk => exact False.elim hq'
    | cont => exact False.elim hq'
theorem pe_make (M : Mk X.K C f) (F : FnOk X.prog X.w X.K X.mg X.base CX k f fd ps sp) (hr : Room (k + 1) X.A) (hg : Gl X x) (hm : X.mg x = some (.ref C)) (hb : Binds X.K fd ps ds) (hd : Vals dvs ds) (hx : Passes CX X E)
    (ha : PA X (e :: es) t) (hdb : (x == ("__debug__" : Str)) = false := by decide) (he : starEach (e :: es) X.env = (false, eval e X.env) :: starEach es X.env := by rfl) (hpl : (backTo pos (starEach es X.env)).any (·.1) = false := by rfl) :
    PE X (.Call (.Name x p) (e :: es) [] pos) (tMake C sp dvs E t) := by
  intro pins s σ H Q I h
  refine wpAny_Call_Name_kw (ld_glob I hg hm ?_ hdb)
  refine PySem.W.callWith_K (h₀ := X.base) I.ok.mod.kin M.kp (thn (ha pos pins s σ H _ I h) fun us s1 ⟨vs, H1, I1, r, q⟩ => ⟨I1.kIn, ?_⟩) he hpl
  exact run_make M F hr hb hd hx I1 r q
theorem pe_make0 (M : Mk X.K C f) (F : FnOk X.prog X.w X.K X.mg X.base CX k f fd ps sp) (hr : Room (k + 1) X.A) (hg : Gl X x) (hm : X.mg x = some (.ref C)) (hb : Binds X.K fd ps ds) (hd : Vals dvs ds) (hx : Passes CX X E)
    (hdb : (x == ("__debug__" : Str)) = false := by decide) : PE X (.Call (.Name x p) [] [] pos) (tMake C sp dvs E tNil) := by
  intro pins s σ H Q I h
  refine wpAny_Call_Name_kw (ld_glob I hg hm ?_ hdb)
  exact PySem.W.callWith_K0 I.kIn M.kp (run_make (us := []) M F hr hb hd hx I .nil h)
end

/-! ### keywords -/
/-- the values of the keywords, from the left -/
def PK (X : Cx) (kws : List Keyword) (t : TA) : Prop :=
  ∀ (pos : Pos) (pins : List (Addr × Obj)) (s : Shared) (σ : St) (H : Hp) (Q : List V → Hp → Prop), Inv X pins σ H s → t σ H Q → wpAny (model X.prog X.w) X.A (evalAll ((backToKw pos (keywordEach kws X.env)).map (·.2))) (AP X pins σ Q) X.xe s
section
variable {X : Cx} {CX : CXT} {k : Nat} {f C : Addr} {fd : FuncData} {ps ks : List Str} {sp : Sp} {E : XK} {x m : Str} {p pos apos kpos : Pos} {e o : Expr} {es : List Expr} {kws : List Keyword} {te ta : TE} {t tk : TA} {nm : Option Str}
theorem pk_nil : PK X [] tNil := fun _ _ _ _ H Q I h => wpAny_evalAll_nil ⟨[], H, I, .nil, h⟩
theorem pk_cons (ha : PE X e te) (hr : PK X kws t) : PK X (⟨nm, e, kpos⟩ :: kws) (tCons te t) := by
  intro pos pins s σ H Q I h
  show wpAny _ _ (evalAll ((do let v ← eval e X.env; standAt pos; pure v) :: (backToKw pos (keywordEach kws X.env)).map (·.2))) _ _ s
  refine wpAny_evalAll_cons (wpAny_bind (thn (ha pins s σ H _ I h) fun u s1 ⟨x, H1, I1, r1, q1⟩ => wpAny_bind (wpAny_standAt (wpAny_pure ?_))))
  exact thn (hr pos pins s1 σ H1 _ I1 q1) fun us s2 ⟨xs, H2, I2, r2, q2⟩ => ⟨x :: xs, H2, I2, .cons r1 r2, q2⟩

/-- how a call with keywords binds: g puts the positional values us and the keywords' values ws (names ks) in the parameters' order, defaults among them -/
structure KBinds (K : PySem.W.Frag) (fd : FuncData) (ps ks : List Str) (g : List Value → List Value → List Value) (gV : List V → List V → List V) : Prop where
  to : ∀ (s : Shared) (us ws : List Value), K.In s.heap → (g us ws).length = ps.length → BindsTo s fd ⟨us, ks.zip ws⟩ (ps.zip (g us ws))
  rel : ∀ {vs : List V} {us : List Value} {zs : List V} {ws : List Value}, Vals vs us → Vals zs ws → Vals (gV vs zs) (g us ws)
def tCallK (sp : Sp) (gV : List V → List V → List V) (E : XK) (t tk : TA) : TE := fun σ H Q => t σ H fun vs H1 => tk σ H1 fun zs H2 => sp (gV vs zs) H2 Q E
variable {g : List Value → List Value → List Value} {gV : List V → List V → List V}
theorem run_fnk {pins : List (Addr × Obj)} {σ : St} {H : Hp} {s : Shared} {Q : VK} {us ws : List Value} {vs zs : List V} (F : FnOk X.prog X.w X.K X.mg X.base CX k f fd ps sp) (hr : Room k X.A) (hb : KBinds X.K fd ps ks g gV) (hx : Passes CX X E)
    (I : Inv X pins σ H s) (r : Vals vs us) (rz : Vals zs ws) (h : sp (gV vs zs) H Q E) : wpAny (model X.prog X.w) X.A (call (.ref f) us (ks.zip ws)) (EP X pins σ Q) X.xe s := by
  have r2 := hb.rel r rz
  have hl : (g us ws).length = ps.length := by rw [← r2.length]; exact F.len _ _ _ _ h
  refine wpAny_call (codeAny_mono (F.run X.A X.stack s H ⟨us, ks.zip ws⟩ (g us ws) (gV vs zs) Q E hr I.env0 (hb.to s us ws I.kIn hl) r2 h) fun r s' hq => ?_)
  cases r with
  | error e => exact hx pins σ H s e s' I hq
  | ok fl =>
    cases fl with
    | ret u => exact I.after hq
    | next => exact False.elim hq
    | brk => exact False.elim hq
    | cont => exact False.elim hq
/-- f(e, .., k = v, ..) -/
theorem pe_callK (F : FnOk X.prog X.w X.K X.mg X.base CX k f fd ps sp) (hr : Room k X.A) (hg : Gl X x) (hm : X.mg x = some (.ref f)) (hk : PySem.W.keepIn X.K (.ref f) = true) (hb : KBinds X.K fd ps ks g gV) (hx : Passes CX X E)
    (ha : PA X (e :: es) t) (hkw : PK X kws tk) (hall : (backToKw pos (keywordEach kws X.env)).all (·.1.isSome) = true := by rfl) (hks : (backToKw pos (keywordEach kws X.env)).filterMap (·.1) = ks := by rfl)
    (hdb : (x == ("__debug__" : Str)) = false := by decide) (he : starEach (e :: es) X.env = (false, eval e X.env) :: starEach es X.env := by rfl)
    (hpl : ((backTo pos (starEach (e :: es) X.env)).any (·.1) || (backToKw pos (keywordEach kws X.env)).any (·.1.isNone)) = false := by rfl) :
    PE X (.Call (.Name x p) (e :: es) kws pos) (tCallK sp gV E t tk) := by
  intro pins s σ H Q I h
  refine wpAny_Call_Name_kw (ld_glob I hg hm ?_ hdb)
  refine PySem.W.callWith_KW (h₀ := X.base) I.ok.mod.kin hk hall (thn (ha pos pins s σ H _ I h) fun us s1 ⟨vs, H1, I1, r, q⟩ => ?_) hpl he
  refine thn (hkw pos pins s1 σ H1 _ I1 q) fun ws s2 ⟨zs, H2, I2, rz, q2⟩ => ⟨I2.kIn, ?_⟩
  rw [hks]
  exact run_fnk F hr hb hx I2 r rz q2
end

/-! ### a def's body keeps its promise -/
/-- names: the parameters first -/
structure FnScope (N P : List Str) (sc : Scope) : Prop where
  kind : sc.kind = .function
  co : sc.isCoroutine = false
  gen : sc.isGenerator = false
  nd : N.Nodup
  pre : N.take P.length = P
  par : ∀ x ∈ P, sc.names.lookup x = some .local ∨ sc.names.lookup x = some .cell
  nofree : ∀ y ∈ sc.names, y.2 ≠ .free

theorem bindL_out {kindOf : Str → Option NameKind} {x : Str} : ∀ {binds : List (Str × Value)} {m : Str → Option Value}, (∀ v, (x, v) ∉ binds) → bindL kindOf binds m x = m x
  | [], _, _ => rfl
  | (n, v) :: r, m, h => by
    unfold bindL
    rw [bindL_out fun w hw => h w (List.mem_cons_of_mem _ hw)]
    split
    · have : x ≠ n := by rintro rfl; exact h v List.mem_cons_self
      simp [this]
    · rfl
theorem bindC_out {kindOf : Str → Option NameKind} {x : Str} : ∀ {binds : List (Str × Value)} {m : Str → Option Value}, (∀ v, (x, v) ∉ binds) → bindC kindOf binds m x = m x
  | [], _, _ => rfl
  | (n, v) :: r, m, h => by
    unfold bindC
    rw [bindC_out fun w hw => h w (List.mem_cons_of_mem _ hw)]
    split
    · rfl
    · have : x ≠ n := by rintro rfl; exact h v List.mem_cons_self
      simp [this]
theorem bindL_get {kindOf : Str → Option NameKind} {x : Str} {v : Value} : ∀ {P : List Str} {vs : List Value} {i : Nat} {m : Str → Option Value}, P.Nodup → P[i]? = some x → vs[i]? = some v → kindOf x = some .local →
    bindL kindOf (P.zip vs) m x = some v
  | [], _, _, _, _, h, _, _ => by simp at h
  | _ :: _, [], _, _, _, _, h, _ => by simp at h
  | p :: P, w :: vs, 0, m, nd, h1, h2, hk => by
    simp at h1 h2; subst h1; subst h2
    show bindL kindOf ((p, w) :: P.zip vs) m p = _
    unfold bindL
    rw [bindL_out fun v hv => (List.nodup_cons.mp nd).1 (List.of_mem_zip hv).1, if_pos hk]
    simp
  | p :: P, w :: vs, i + 1, m, nd, h1, h2, hk => by
    show bindL kindOf ((p, w) :: P.zip vs) m x = _
    unfold bindL
    exact bindL_get (i := i) (List.nodup_cons.mp nd).2 (by simpa using h1) (by simpa using h2) hk
theorem bindC_get {kindOf : Str → Option NameKind} {x : Str} {v : Value} : ∀ {P : List Str} {vs : List Value} {i : Nat} {m : Str → Option Value}, P.Nodup → P[i]? = some x → vs[i]? = some v → kindOf x ≠ some .local →
    bindC kindOf (P.zip vs) m x = some v
  | [], _, _, _, _, h, _, _ => by simp at h
  | _ :: _, [], _, _, _, _, h, _ => by simp at h
  | p :: P, w :: vs, 0, m, nd, h1, h2, hk => by
    simp at h1 h2; subst h1; subst h2
    show bindC kindOf ((p, w) :: P.zip vs) m p = _
    unfold bindC
    rw [bindC_out fun v hv => (List.nodup_cons.mp nd).1 (List.of_mem_zip hv).1, if_neg hk]
    simp
  | p :: P, w :: vs, i + 1, m, nd, h1, h2, hk => by
    show bindC kindOf ((p, w) :: P.zip vs) m x = _
    unfold bindC
    exact bindC_get (i := i) (List.nodup_cons.mp nd).2 (by simpa using h1) (by simpa using h2) hk

/-- the names' values at the entry -/
def start (N : List Str) (vs : List V) : St := vs.map some ++ List.replicate (N.length - vs.length) none

/-- the context of a def's body, at its entry; an exception leaves the frame, then lies as CX says -/
def cxOf (CX : CXT) (P : Program) (w : World) (K : PySem.W.Frag) (mg : Str → Option Value) (base : Heap) (N : List Str) (qual : Str) (scope : Scope) (f : Addr) (cd : Value) (A : Around) (outer : List Env) (s : Shared) (H : Hp) (E : XK) : Cx where
  prog := P
  w := w
  K := K
  mg := mg
  base := base
  A := A.deeper (envOfC qual scope s.heap.objs.size f cd)
  N := N
  s₀ := s
  H₀ := H
  env := envOfC qual scope s.heap.objs.size f cd
  outer := outer
  stack := envOfC qual scope s.heap.objs.size f cd :: outer
  ex := []
  calm := true
  fn := fun _ => true
  pn := []
  xe := fun e s' => wpAny (model P w) (A.deeper (envOfC qual scope s.heap.objs.size f cd)) (leaving (envOfC qual scope s.heap.objs.size f cd) e) (fun _ s'' => CX outer H s E e s'') (fun e' s'' => CX outer H s E e' s'') s'

theorem cell_has {sc : Scope} {n : Nat} {x : Str} (h : sc.names.lookup x = some .cell) : ∃ c, (cellsFrom n sc.names []).lookup x = some c := by
  have q := PySem.W.cellsFrom_some sc.names n [] (.inl h)
  exact Option.isSome_iff_exists.mp q

theorem inv_start {CX : CXT} {P : Program} {w : World} {K : PySem.W.Frag} {mg : Str → Option Value} {base : Heap} {N ps : List Str} {qual : Str} {scope : Scope} {f : Addr} {cd : Value} {A : Around} {outer : List Env} {s s1 : Shared} {H : Hp} {E : XK} {us : List Value} {vs : List V}
    (S : FnScope N ps scope) (hd : A.handled = none) (e0 : Env0 P w K mg base A outer s H) (hl : vs.length = ps.length) (r : Vals vs us)
    (x : InCallC s s.heap.objs.size (bindL (envOfC qual scope s.heap.objs.size f cd).kindOf (ps.zip us) fun _ => none) (cellsFrom (s.heap.objs.size + 1) scope.names []) (bindC (envOfC qual scope s.heap.objs.size f cd).kindOf (ps.zip us) fun _ => none) s1) :
    Inv (cxOf CX P w K mg base N qual scope f cd A outer s H E) [] (start N vs) H s1 := by
  have hpl : ps.length ≤ N.length := by have := congrArg List.length S.pre; rw [List.length_take] at this; omega
  obtain ⟨h1, tk, rfl, hk⟩ := x.done
  have noA : ∀ b : Addr, b ∉ (cxOf CX P w K mg base N qual scope f cd A outer s H E).ex := fun b z => absurd (show b ∈ ([] : List Addr) from z) (by simp)
  refine ⟨⟨e0.mod, S.kind, rfl, rfl, Nat.le_refl _, fun y z c h1 h2 => ?_, fun y hy => ?_, fun y c _ h => ?_, fun _ => hd, Around.frames_deeper e0.frames, .inr ⟨rfl, rfl⟩, fun b z => absurd z (noA b), e0.bs, e0.bsz, fun b _ _ => noA b, fun b z => absurd z (noA b), e0.funs, e0.frf⟩,
    rfl, e0.bare, Un.kept hk, ⟨_, x.toInCall.ns, fun i y v h1 h2 h3 => ?_⟩, fun y c h => ⟨_, x.cell y c h⟩, e0.hok.fresh (Nat.le_refl _), fun y c h => ?_, fun p hp => absurd (show p ∈ ([] : List (Addr × Obj)) from hp) (by simp), e0.hok.kept hk, ?_⟩
  · exact name_of_addr x.apart (PySem.mem_of_lookup h1) (PySem.mem_of_lookup h2)
  · have hy : scope.names.lookup y = some .cell ∨ scope.names.lookup y = some .free := hy
    rcases hy with hy | hy
    · exact cell_has hy
    · exact absurd rfl (S.nofree _ (PySem.mem_of_lookup hy))
  · exact Nat.le_of_lt (x.above y c (PySem.mem_of_lookup h))
  · have hi : i < vs.length := by
      unfold start at h2
      by_cases hi : i < vs.length
      · exact hi
      · rw [List.getElem?_append_right (by simpa using hi)] at h2
        rw [List.getElem?_replicate] at h2
        split at h2 <;> cases h2
    have ha : vs[i]? = some v := by
      unfold start at h2
      rw [List.getElem?_append_left (by simpa using hi), List.getElem?_map] at h2
      cases e : vs[i]? with
      | none => rw [e] at h2; cases h2
      | some a => rw [e] at h2; cases h2; rfl
    obtain ⟨u, hu, rv⟩ := r.get ha
    have hp : ps[i]? = some y := by
      rw [← S.pre, List.getElem?_take_of_lt (by omega)]; exact h1
    have ndP : ps.Nodup := by rw [← S.pre]; exact S.nd.sublist (List.take_sublist _ _)
    refine ⟨u, rv, ?_⟩
    rcases S.par y (List.mem_of_getElem? hp) with k | k
    · exact .inl ⟨k, bindL_get ndP hp hu k⟩
    · obtain ⟨c, e⟩ := cell_has (n := s.heap.objs.size + 1) k
      refine .inr ⟨.inl k, c, e, ?_⟩
      have q := x.cell y c e
      rw [bindC_get ndP hp hu (by show scope.names.lookup y ≠ _; rw [k]; decide)] at q
      exact q
  · exact e0.hok.fresh (Nat.le_of_lt (x.above y c (PySem.mem_of_lookup h)))
  · unfold start
    show _ = N.length
    rw [List.length_append, List.length_map, List.length_replicate]
    omega

/-- THE RULE: a def (or a method) of the text, by its body. The body's reading t is chosen for each entry; it is run at the parameters' values -/
theorem fn_of {CX : CXT} {P : Program} {w : World} {K : PySem.W.Frag} {mg : Str → Option Value} {base : Heap} {k : Nat} {f : Addr} {name qual : Str} {params : Arguments} {body : List Stmt} {scope : Scope} {dV kV doc pm cdv ct oc : Value} {an od : Option Addr}
    {osl : Array (Option Value)} {N ps : List Str} {sp : Sp} (lk : K.lookup f = some ⟨oc, od, .func (PySem.W.fnOf name qual params body scope dV kV doc pm an cdv ct), osl⟩) (hcd : PySem.W.codeIn K cdv qual = true) (S : FnScope N ps scope)
    (len : ∀ vs H Q E, sp vs H Q E → vs.length = ps.length)
    (hbody : ∀ (A : Around) (outer : List Env) (s : Shared) (H : Hp) (vs : List V) (Q : VK) (E : XK), Room k (A.deeper (envOfC qual scope s.heap.objs.size f cdv)) → sp vs H Q E →
      ∃ t, PSs (cxOf CX P w K mg base N qual scope f cdv A outer s H E) body t ∧ t { nx := fun _ H' => Q .non H', rt := Q } (start N vs) H) :
    FnOk P w K mg base CX (k + 1) f (PySem.W.fnOf name qual params body scope dV kV doc pm an cdv ct) ps sp := by
  refine ⟨len, fun A outer s H args us vs Q E hr e0 hb r hsp => ?_⟩
  have hl := len _ _ _ _ hsp
  have KX : K.In s.heap := e0.mod.kin.keeps fun b o e => (e0.bs b o e).1
  have lim : s.heap.NoLimit := e0.mod.nolimit.keeps fun b o e => (e0.bs b o e).1
  have hkind : ∀ y ∈ ps.zip us, scope.names.lookup y.1 = some .local ∨ (scope.names.lookup y.1 = some .cell ∧ ((cellsFrom (s.heap.objs.size + 1) scope.names []).lookup y.1).isSome = true) := fun ⟨n, v⟩ hy => by
    rcases S.par n (List.of_mem_zip hy).1 with q | q
    · exact .inl q
    · exact .inr ⟨q, PySem.W.cellsFrom_some _ _ _ (.inl q)⟩
  refine codeAny_call_function hr.depth (KX _ _ lk) rfl S.co S.gen rfl (PySem.W.codeRec_of KX hcd) (hb _ _ _ _ ?_)
  refine wpAny_newFunctionEnv_cells S.kind hkind fun env he s1 x => ?_
  subst he
  refine ⟨lim.keeps x.toInCall.keep, codeAny_func ?_⟩
  obtain ⟨t, ht, hq⟩ := hbody A outer s H vs Q E (hr.deeper _) hsp
  have I : Inv (cxOf CX P w K mg base N qual scope f cdv A outer s H E) [] (start N vs) H s1 := inv_start S hr.hd e0 hl r x
  refine wpAny_mono (ht [] s1 (start N vs) H _ I hq) (fun fl s' hs => ?_) fun e s' hs => hs
  have fin : ∀ {σ' : St} {H' : Hp} {v : V} {u : Value}, Inv (cxOf CX P w K mg base N qual scope f cdv A outer s H E) [] σ' H' s' → RelV v u → Q v H' → CE outer P w H s Q u s' :=
    fun {σ' H' v u} J rv q => ⟨v, H', J.os, J.bare, J.base, J.hok, rv, q⟩
  cases fl with
  | ret u =>
    obtain ⟨v, σ', H', J, rv, q⟩ := hs
    exact fin J rv q
  | next =>
    obtain ⟨σ', H', J, q⟩ := hs
    exact fin (v := V.non) (u := Value.none) J rfl q
  | brk =>
    obtain ⟨_, _, _, q⟩ := hs
    exact False.elim q
  | cont =>
    obtain ⟨_, _, _, q⟩ := hs
    exact False.elim q
end L2

namespace L2
open PySem PySem.Spec PyProof.Rows
section
variable {X : Cx} {x : Str} {p pos : Pos} {e : Expr} {es : List Expr} {t : TA} {id T : String} {r : List V → Hp → VK → Prop}

def tCB (r : List V → Hp → VK → Prop) (t : TA) : TE := fun σ H Q => t σ H fun vs H1 => r vs H1 Q
/-- f(e, ..), f a built-in function -/
theorem pe_callB (hc : CallR X (.builtin id) r) (hg : Gl X x) (hm : X.mg x = none) (hv : bootBuiltins x = some (.builtin id)) (ha : PA X (e :: es) t) (hn : x ≠ "__name__" := by decide) (hdb : (x == ("__debug__" : Str)) = false := by decide)
    (he : starEach (e :: es) X.env = (false, eval e X.env) :: starEach es X.env := by rfl) (hpl : (backTo pos (starEach es X.env)).any (·.1) = false := by rfl) : PE X (.Call (.Name x p) (e :: es) [] pos) (tCB r t) := by
  intro pins s σ H Q I h
  refine wpAny_Call_Name_kw (ld_blt I hg hm hv ?_ hn hdb)
  exact PyProof.Rows.callWith_builtin1 (thn (ha pos pins s σ H _ I h) fun us s1 ⟨vs, H1, I1, r1, q1⟩ => hc pins s1 σ H1 vs us Q I1 r1 q1) he hpl
/-- T(e, ..), T a built-in type -/
theorem pe_callTy (hc : CallR X (.type T) r) (hg : Gl X x) (hm : X.mg x = none) (hv : bootBuiltins x = some (.type T)) (ha : PA X (e :: es) t) (hn : x ≠ "__name__" := by decide) (hdb : (x == ("__debug__" : Str)) = false := by decide)
    (he : starEach (e :: es) X.env = (false, eval e X.env) :: starEach es X.env := by rfl) (hpl : (backTo pos (starEach es X.env)).any (·.1) = false := by rfl) : PE X (.Call (.Name x p) (e :: es) [] pos) (tCB r t) := by
  intro pins s σ H Q I h
  refine wpAny_Call_Name_kw (ld_blt I hg hm hv ?_ hn hdb)
  exact PyProof.Rows.callWith_type1 (thn (ha pos pins s σ H _ I h) fun us s1 ⟨vs, H1, I1, r1, q1⟩ => hc pins s1 σ H1 vs us Q I1 r1 q1) he hpl
/-- T() -/
theorem pe_callTy0 (hc : CallR X (.type T) r) (hg : Gl X x) (hm : X.mg x = none) (hv : bootBuiltins x = some (.type T)) (hn : x ≠ "__name__" := by decide) (hdb : (x == ("__debug__" : Str)) = false := by decide) :
    PE X (.Call (.Name x p) [] [] pos) (tCB r tNil) := by
  intro pins s σ H Q I h
  refine wpAny_Call_Name_kw (ld_blt I hg hm hv ?_ hn hdb)
  exact PyProof.Rows.callWith_type0 (hc pins s σ H [] [] Q I .nil h)
end
end L2

namespace HT
open PySem PyProof.Rows

/-- t < u of tuples of ints -/
def lexLt : List Int → List Int → Bool
  | [], [] => false
  | [], _ :: _ => true
  | _ :: _, [] => false
  | x :: xs, y :: ys => if x = y then lexLt xs ys else decide (x < y)
theorem lexLt_cons (x y : Int) (xs ys : List Int) : lexLt (x :: xs) (y :: ys) = if x = y then lexLt xs ys else decide (x < y) := rfl
theorem lexLt_nil_nil : lexLt [] [] = false := rfl
theorem lexLt_nil_cons (y : Int) (ys : List Int) : lexLt [] (y :: ys) = true := rfl
theorem lexLt_cons_nil (x : Int) (xs : List Int) : lexLt (x :: xs) [] = false := rfl

theorem eqAt_int (A : Around) (s : Shared) (a : Int) (t : Tok) (c : Int) (u : Tok) : ∃ e, SeqAt.EqAt A s (.int a t) (.int c u) e ∧ (e = true ↔ a = c) :=
  ⟨(a == c), SeqAt.EqAt.int_int a t c u, by simp⟩
theorem rcLt_int (A : Around) (s : Shared) (a : Int) (t : Tok) (c : Int) (u : Tok) (prog : Program) (w : World) (E : Value → Shared → Prop) (Q : Value → Shared → Prop) (h : Q (.bool (decide (a < c))) s) :
    wpAny (model prog w) A (richCompare .Lt (.int a t) (.int c u)) Q E s :=
  (PyProof.Rows.lt_int h : wpAny (model prog w) A (compareOp .Lt (.int a t) (.int c u)) Q E s)

section
open PySem.SeqAt
open PySem.AutoSeq1 (wpAny_loadPart')
open PySem.MeetsSeq PySem.MeetsSeq2 PySem.MeetsSeq3

theorem tuple_lt_ints (l b : Addr) (items items2 : Array Value) (n n2 : Nat) (dd dd2 : Option Addr) (sl sl2 : Array (Option Value)) (ns ms : List Int) (hi : IntsAre items.toList ns) (hj : IntsAre items2.toList ms) :
    Meets (Builtin.«tuple.__lt__» ⟨[.ref l, .ref b], []⟩)
      (fun _ R s => s.heap.get? l = some { cls := .type "tuple", dict := dd, data := .seq items n, slots := sl } ∧ s.heap.get? b = some { cls := .type "tuple", dict := dd2, data := .seq items2 n2, slots := sl2 } ∧
        R (.ok (.ret (.bool (lexLt ns ms)))) s) :=
  .of_wp fun prog w A R s h => by
    obtain ⟨hp, g, d, tk, os⟩ := s; obtain ⟨hl, hb, h⟩ := h
    have f2 := AutoSeq1.sub_tuple_tuple
    have z1 : items.size = ns.length := by rw [← hi.length]; simp
    have z2 : items2.size = ms.length := by rw [← hj.length]; simp
    wp_walk using wpAny_loadPart' hl, wpAny_loadPart' hb, wpAny_forIn_list _ (fun rest b s' => b.1 = none ∧ s' = ⟨hp, g, d, tk, os⟩ ∧ ∃ (vs ws : List Value) (ns' ms' : List Int), rest = vs.zip ws ∧
      IntsAre vs ns' ∧ IntsAre ws ms' ∧ ns'.length + items2.size = ms'.length + items.size ∧ R (.ok (.ret (.bool (lexLt ns' ms')))) ⟨hp, g, d, tk, os⟩) _
    case turn =>
      rintro ⟨y, x⟩ rest b s' ⟨hb', rfl, vs, ws, ns', ms', hz, hvi, hwi, hlen, hR⟩
      cases hvi with
      | nil => rw [List.zip_nil_left] at hz; cases hz
      | cons a t hvi' =>
        cases hwi with
        | nil => rw [List.zip_nil_right] at hz; cases hz
        | cons c u hwi' =>
          rw [List.zip_cons_cons] at hz
          injection hz with hyx hrest
          injection hyx with hy hx
          subst hy hx
          rw [lexLt_cons] at hR
          simp only [List.length_cons] at hlen
          obtain ⟨e, he, hiff⟩ := eqAt_int A.in1 ⟨hp, g, d, tk, os⟩ a t c u
          refine wpAny_bind (he prog w _ _ ?_)
          cases e with
          | true =>
            rw [if_pos (hiff.mp rfl)] at hR
            wp_walk
            exact ⟨rfl, rfl, _, _, _, _, hrest, hvi', hwi', by omega, hR⟩
          | false =>
            rw [if_neg (fun q => absurd (hiff.mpr q) Bool.false_ne_true)] at hR
            have hri := rcLt_int A.in1 ⟨hp, g, d, tk, os⟩ a t c u prog w
            wp_walk using hri
            exact ⟨_, rfl, by simpa using hR⟩
    case fin =>
      rintro ⟨b1, b2⟩ s' ⟨hb', rfl, vs, ws, ns', ms', hz, hvi, hwi, hlen, hR⟩
      simp only at hb'
      subst hb'
      have hv : lexLt ns' ms' = decide (items.size < items2.size) := by
        cases hvi with
        | nil =>
          cases hwi with
          | nil =>
            simp only [List.length_nil] at hlen
            rw [lexLt_nil_nil]
            exact (decide_eq_false (by omega)).symm
          | cons c u hw =>
            simp only [List.length_nil, List.length_cons] at hlen
            rw [lexLt_nil_cons]
            exact (decide_eq_true (by omega)).symm
        | cons a t hv =>
          cases hwi with
          | nil =>
            simp only [List.length_nil, List.length_cons] at hlen
            rw [lexLt_cons_nil]
            exact (decide_eq_false (by omega)).symm
          | cons c u hw =>
            rw [List.zip_cons_cons] at hz
            cases hz
      rw [hv] at hR
      wp_walk
      exact ⟨_, rfl, by simpa [Builtin.Tuple.tupleCompareSizes] using hR⟩
    case h =>
      exact ⟨rfl, rfl, items.toList, items2.toList, ns, ms, rfl, hi, hj, by omega, h⟩
end

section
variable {prog : Program} {w : World} {A : Around} {E : Value → Shared → Prop} {s : Shared}

theorem lt_tupInts {l b : Addr} {items items2 : Array Value} {ns ms : List Int} {Q : Value → Shared → Prop} (hl : IsTup s.heap l items) (hb : IsTup s.heap b items2) (hi : IntsAre items.toList ns) (hj : IntsAre items2.toList ms)
    (hu : A.units < cLine) (h : Q (.bool (lexLt ns ms)) s) : wpAny (model prog w) A (compareOp .Lt (.ref l) (.ref b)) Q E s := by
  obtain ⟨⟨cls, dd, data, sl⟩, ho, hc, n, hd⟩ := id hl
  obtain ⟨⟨cls2, dd2, data2, sl2⟩, ho2, hc2, n2, hd2⟩ := id hb
  simp only at hc hd hc2 hd2
  subst hc hd hc2 hd2
  exact richCompare_meets_room (op := .Lt) ⟨_, ho, rfl⟩ ⟨_, ho2, rfl⟩ PySem.F.slot_tuple_lt PySem.F.entry_tuple_lt (PySem.F.args_tuple_lt_2 _ _) (tuple_lt_ints l b items items2 n n2 dd dd2 sl sl2 ns ms hi hj)
    ⟨ho, ho2, show Value.bool (lexLt ns ms) ≠ Value.notImplemented ∧ Q (.bool (lexLt ns ms)) s from ⟨(fun x => nomatch x), h⟩⟩ hu

/-- t + u, t not empty -/
theorem cat_tup {t b : Addr} {vs ws : List Value} {Q : Value → Shared → Prop} (ht : IsTup s.heap t vs.toArray) (hb : IsTup s.heap b ws.toArray) (hv : vs ≠ [])
    (h1 : ws = [] → Q (.ref t) s) (h2 : ws ≠ [] → Q (.ref s.heap.objs.size) { s with heap := s.heap.push { cls := .type "tuple", data := .seq (vs ++ ws).toArray } })
    (hsz : vs.length + ws.length ≤ sizeLine) : wpAny (model prog w) A (binaryOp .Add (.ref t) (.ref b)) Q E s := by
  obtain ⟨⟨cls, dd, data, sl⟩, ho, hc, n, hd⟩ := id ht
  obtain ⟨⟨cls2, dd2, data2, sl2⟩, ho2, hc2, n2, hd2⟩ := id hb
  simp only at hc hd hc2 hd2
  subst hc hd hc2 hd2
  have e : vs.toArray ++ ws.toArray = (vs ++ ws).toArray := by simp
  by_cases hw : ws = []
  · exact concat_meets ⟨_, ho, rfl⟩ ⟨_, ho2, rfl⟩ noFill_tuple_add seq_tuple_add PySem.F.slot_tuple_add PySem.F.entry_tuple_add (PySem.F.args_tuple_add_2 _ _)
      (tuple_addW1 t b vs.toArray ws.toArray n n2 dd dd2 sl sl2 (by simpa using hv) (by simp [hw])) ⟨ho, ho2, h1 hw⟩
  · refine concat_meets ⟨_, ho, rfl⟩ ⟨_, ho2, rfl⟩ noFill_tuple_add seq_tuple_add PySem.F.slot_tuple_add PySem.F.entry_tuple_add (PySem.F.args_tuple_add_2 _ _)
      (tuple_addW2 t b vs.toArray ws.toArray n n2 dd dd2 sl sl2 (by simpa using hv) (by simpa using hw) (by rw [List.size_toArray, List.size_toArray]; exact hsz)) ⟨ho, ho2, ?_⟩
    rw [e]
    exact h2 hw

/-! ### t[a:b], not the whole -/
/-- a slice's bound as a place among n (d where it is left out) -/
def sIx (n d : Nat) : Option Int → Nat
  | none => d
  | some v => if v < 0 then (v + (n : Int)).toNat else min v.toNat n
theorem sIx_none (n d : Nat) : sIx n d none = d := rfl
theorem sIx_nat (n d k : Nat) : sIx n d (some (k : Int)) = min k n := by
  show (if (k : Int) < 0 then ((k : Int) + (n : Int)).toNat else min (k : Int).toNat n) = min k n
  rw [if_neg (by omega), Int.toNat_natCast]
theorem sIx_le (n d : Nat) (hd : d ≤ n) (o : Option Int) : sIx n d o ≤ n := by
  cases o with
  | none => exact hd
  | some v =>
    show (if v < 0 then (v + (n : Int)).toNat else min v.toNat n) ≤ n
    by_cases hv : v < 0
    · rw [if_pos hv]; omega
    · rw [if_neg hv]; exact Nat.min_le_right _ _
theorem clip_eq (v : Int) (n d : Nat) : (if v < 0 then max (v + (n : Int)) 0 else min v (n : Int)) = ((sIx n d (some v) : Nat) : Int) := by
  show (if v < 0 then max (v + (n : Int)) 0 else min v (n : Int)) = (((if v < 0 then (v + (n : Int)).toNat else min v.toNat n) : Nat) : Int)
  by_cases hv : v < 0
  · simp only [if_pos hv]; omega
  · simp only [if_neg hv]; omega
theorem adjust_gen (lo hi : Option Int) (n : Nat) : Builtin.Slice.sliceAdjust lo hi 1 (n : Int) = (((sIx n 0 lo : Nat) : Int), ((sIx n n hi : Nat) : Int)) := by
  have h1 : ¬ ((1 : Int) < 0) := by omega
  unfold Builtin.Slice.sliceAdjust
  simp only [h1, if_false]
  refine Prod.ext ?_ ?_
  · cases lo with
    | none => rfl
    | some v => exact clip_eq v n 0
  · cases hi with
    | none => rfl
    | some v => exact clip_eq v n n
theorem places_gen (i j : Nat) : Builtin.Slice.slicePlaces (i : Int) (j : Int) 1 = j - i := by
  unfold Builtin.Slice.slicePlaces
  have h1 : (1 : Int) > 0 := by omega
  simp only [h1, if_true, Int.ediv_one]
  split <;> omega
theorem slicePart_ {v : Value} {o : Option Int} {Q : Option Int → Shared → Prop} (p : IsPart v o) (h : Q o s) : wpAny (model prog w) A (Builtin.Slice.slicePartIndex v) Q E s := by
  cases p with
  | none => exact slicePart_none h
  | int i t => exact slicePart_int h
theorem sliceApplied_gen {sl : Addr} {vl vu : Value} {lo hi : Option Int} {n : Nat} {Q : Int × Int × Nat → Shared → Prop} (hs : s.heap.IsSliceOf sl vl vu .none) (pl : IsPart vl lo) (pu : IsPart vu hi)
    (h : Q (((sIx n 0 lo : Nat) : Int), 1, sIx n n hi - sIx n 0 lo) s) : wpAny (model prog w) A (Builtin.Slice.sliceApplied (.ref sl) (pure (n : Int))) Q E s := by
  obtain ⟨os, hos, hcs, hds⟩ := id hs
  unfold Builtin.Slice.sliceApplied Builtin.Slice.sliceFields
  refine wpAny_bind (wpAny_bind (wpAny_field hos hds (x := vl) rfl (wpAny_bind (wpAny_field hos hds (x := vu) rfl (wpAny_bind (wpAny_field hos hds (x := .none) rfl (wpAny_pure ?_)))))))
  refine wpAny_bind (slicePart_none ?_)
  show wpAny _ _ (if ((1 : Int) == 0) = true then _ else _) _ _ s
  rw [if_neg (by decide)]
  refine wpAny_bind (slicePart_ pl (wpAny_bind (slicePart_ pu (wpAny_bind (wpAny_pure ?_)))))
  show wpAny _ _ (match Builtin.Slice.sliceAdjust lo hi 1 (n : Int) with | (lo, hi) => pure (lo, (1 : Int), Builtin.Slice.slicePlaces lo hi 1)) _ _ s
  rw [adjust_gen lo hi n]
  show wpAny _ _ (pure (((sIx n 0 lo : Nat) : Int), (1 : Int), Builtin.Slice.slicePlaces ((sIx n 0 lo : Nat) : Int) ((sIx n n hi : Nat) : Int) 1)) _ _ s
  rw [places_gen]
  exact wpAny_pure h
theorem pick_gen (xs : Array Value) (i k : Nat) : ((List.range k).filterMap fun (m : Nat) => xs[((i : Int) + (m : Int) * 1).toNat]?).toArray = ((xs.toList.drop i).take k).toArray := by
  have e : (fun (m : Nat) => xs[((i : Int) + (m : Int) * 1).toNat]?) = fun m => xs[i + m]? := by
    funext m
    have : ((i : Int) + (m : Int) * 1).toNat = i + m := by omega
    rw [this]
  rw [e]
  have := pick_run xs i k
  rw [List.filterMap_map] at this
  have e2 : ((fun x => xs[x]?) ∘ fun x => i + x) = fun m => xs[i + m]? := rfl
  rw [e2] at this
  rw [this]

theorem getItem_tuple_cut {t sl : Addr} {items : Array Value} {vl vu : Value} {lo hi : Option Int} {Q : Value → Shared → Prop} (ht : IsTup s.heap t items) (hs : s.heap.IsSliceOf sl vl vu .none) (pl : IsPart vl lo) (pu : IsPart vu hi)
    (hw : ¬ (sIx items.size 0 lo = 0 ∧ sIx items.size items.size hi = items.size))
    (h : Q (.ref s.heap.objs.size) { s with heap := s.heap.push { cls := .type "tuple", data := .seq ((items.toList.drop (sIx items.size 0 lo)).take (sIx items.size items.size hi - sIx items.size 0 lo)).toArray } })
    (hsz : items.size ≤ sizeLine) : wpAny (model prog w) A (getItem (.ref t) (.ref sl)) Q E s := by
  have htake : sizeOk (.seq ((items.toList.drop (sIx items.size 0 lo)).take (sIx items.size items.size hi - sIx items.size 0 lo)).toArray) := by
    show ((items.toList.drop (sIx items.size 0 lo)).take (sIx items.size items.size hi - sIx items.size 0 lo)).toArray.size ≤ sizeLine
    rw [List.size_toArray, List.length_take, List.length_drop, Array.length_toList]
    omega
  have hj : sIx items.size items.size hi ≤ items.size := sIx_le _ _ (Nat.le_refl _) hi
  obtain ⟨os, hos, hcs, hds⟩ := id hs
  have hTs : s.TypeIs (.ref sl) "slice" := ⟨os, hos, hcs⟩
  unfold getItem
  try with_reducible refine wpAny_holding ?_
  first | refine wpAny_bind (wpAny_pure ?_) | skip
  refine wpAny_bind (wpAny_sequenceKey ht.typeIs (by decide) ?_)
  refine wpAny_bind (wpAny_callSpecial?_slot (name := Str.ofString "__getitem__") ht.typeIs PyProof.Rows.slot_tuple_getitem
    (wpAny_call_entry PyProof.Rows.slot_tuple_getitem ht.typeIs entry_tuple_getitem ?_ (args_tuple_getitem _ _)))
  show wpAny _ _ (Builtin.Tuple.tupleItemsOf (.ref t) >>= _) _ _ s
  refine wpAny_bind (tupleItemsOf_ ht ?_)
  refine wpAny_bind (wpAny_typeOf hTs ?_)
  rw [if_pos (by decide)]
  refine wpAny_bind (sliceApplied_gen hs pl pu ?_)
  have hno : ¬ ((((sIx items.size 0 lo : Nat) : Int) == 0 && (1 : Int) == 1 && (sIx items.size items.size hi - sIx items.size 0 lo) == items.size) = true) := by
    intro q
    rw [Bool.and_eq_true, Bool.and_eq_true] at q
    have q1 : ((sIx items.size 0 lo : Nat) : Int) = 0 := eq_of_beq q.1.1
    have q2 : sIx items.size items.size hi - sIx items.size 0 lo = items.size := eq_of_beq q.2
    exact hw ⟨by omega, by omega⟩
  show wpAny _ _ (if (((sIx items.size 0 lo : Nat) : Int) == 0 && (1 : Int) == 1 && (sIx items.size items.size hi - sIx items.size 0 lo) == items.size) = true then _ else _) _ _ s
  rw [if_neg hno, pick_gen]
  first
    | exact wpAny_bind (m := Builtin.Tuple.tupleExact _) (wpAny_newObj_type (wpAny_pure ⟨_, rfl, wpAny_pure h⟩) htake)
    | exact wpAny_bind (m := Builtin.Tuple.tupleExact _) (wpAny_newObj_type (wpAny_bind (wpAny_pure (wpAny_pure ⟨_, rfl, wpAny_pure h⟩))) htake)
    | exact wpAny_bind (wpAny_bind (m := Builtin.Tuple.tupleExact _) (wpAny_newObj_type (wpAny_pure (wpAny_pure ⟨_, rfl, wpAny_pure h⟩)) htake))
    | exact wpAny_bind (wpAny_bind (m := Builtin.Tuple.tupleExact _) (wpAny_newObj_type (wpAny_pure ⟨_, rfl, wpAny_pure h⟩) htake))
end
end HT

namespace L2
open PySem PySem.Spec PyProof.Rows

/-! ### the parts of a slice -/
abbrev TO := St → Hp → (Option Int → Hp → Prop) → Prop
/-- a slice's part (left out, or an int) -/
def PO (X : Cx) (e : Option Expr) (t : TO) : Prop :=
  ∀ (pins : List (Addr × Obj)) (s : Shared) (σ : St) (H : Hp) (Q : Option Int → Hp → Prop), Inv X pins σ H s → t σ H Q →
    wpAny (model X.prog X.w) X.A (evalPart e X.env) (fun u s' => ∃ o H', Inv X pins σ H' s' ∧ IsPart u o ∧ Q o H') X.xe s
def tNoPart : TO := fun _ H Q => Q none H
def tPart (t : TE) : TO := fun σ H Q => t σ H fun x H1 => ∃ i, x = .int i ∧ Q (some i) H1

theorem intsAre_of {ns : List Int} : ∀ {us : List Value}, Vals (ns.map V.int) us → IntsAre us ns := by
  induction ns with
  | nil => intro us r; rw [List.map_nil] at r; cases r; exact .nil
  | cons n ns ih =>
    intro us r
    rw [List.map_cons] at r
    cases r with
    | cons r1 r2 =>
      obtain ⟨t, e⟩ := r1
      subst e
      exact .cons n t (ih r2)

section
variable {X : Cx} {e : Expr} {te : TE} {lo hi : Option Expr} {tl th : TO} {pos p2 : Pos}

theorem po_none : PO X none tNoPart := by
  intro pins s σ H Q I h
  rw [evalPart_none]
  exact wpAny_pure ⟨none, H, I, .none, h⟩
theorem po_some (h : PE X e te) : PO X (some e) (tPart te) := by
  intro pins s σ H Q I hw
  rw [evalPart_some]
  refine thn (h pins s σ H _ I hw) fun u s1 ⟨x, H1, I1, r1, q1⟩ => ?_
  obtain ⟨i, rfl, q⟩ := q1
  obtain ⟨t, rfl⟩ := r1
  exact ⟨some i, H1, I1, .int i t, q⟩

/-- what a slice of a value is, by values: the slice object stands at sl -/
def SlR (X : Cx) (r : V → Option Int → Option Int → Hp → VK → Prop) : Prop :=
  ∀ (pins : List (Addr × Obj)) (s : Shared) (σ : St) (H : Hp) (x : V) (v vl vu : Value) (lo hi : Option Int) (sl : Addr) (Q : VK), Inv X pins σ H s → RelV x v → s.heap.IsSliceOf sl vl vu .none → IsPart vl lo → IsPart vu hi → r x lo hi H Q →
    ∃ T id, typeLookup (.type T) "__getitem__" = pure (some (.builtin id)) ∧ s.TypeIs v T ∧ wpAny (model X.prog X.w) X.A (getItem v (.ref sl)) (EP X pins σ Q) X.xe s
theorem SlR.or {r r' : V → Option Int → Option Int → Hp → VK → Prop} (h : SlR X r) (h' : SlR X r') : SlR X (fun x lo hi H Q => r x lo hi H Q ∨ r' x lo hi H Q) := by
  intro pins s σ H x v vl vu lo hi sl Q I rx hs pl pu q
  rcases q with q | q
  · exact h pins s σ H x v vl vu lo hi sl Q I rx hs pl pu q
  · exact h' pins s σ H x v vl vu lo hi sl Q I rx hs pl pu q
def tSl (r : V → Option Int → Option Int → Hp → VK → Prop) (te : TE) (tl th : TO) : TE := fun σ H Q => te σ H fun x H1 => tl σ H1 fun l H2 => th σ H2 fun u H3 => r x l u H3 Q
/-- a[lo:hi], any a -/
theorem pe_slice {r : V → Option Int → Option Int → Hp → VK → Prop} (hr : SlR X r) (he : PE X e te) (hl : PO X lo tl) (hu : PO X hi th) : PE X (.Subscript e (.Slice lo hi none p2) pos) (tSl r te tl th) := by
  intro pins s σ H Q I h
  refine Subscript_ (thn (he pins s σ H _ I h) fun v s1 ⟨x, H1, I1, r1, q1⟩ => ?_)
  refine wpAny_Slice (thn (hl pins s1 σ H1 _ I1 q1) fun vl s2 ⟨l, H2, I2, pl, q2⟩ => thn (hu pins s2 σ H2 _ I2 q2) fun vu s3 ⟨u, H3, I3, pu, q3⟩ => ?_)
  rw [evalPart_none]
  refine wpAny_pure ?_
  have I4 : Inv X pins σ H3 { s3 with heap := s3.heap.push { cls := .type "slice", data := .fields #[vl, vu, .none] } } := I3.kept (t' := s3.toks) fun b ob q => Heap.get?_push_of_some _ q
  obtain ⟨T, id, hT, ht, hg⟩ := hr pins { s3 with heap := s3.heap.push { cls := .type "slice", data := .fields #[vl, vu, .none] } } σ H3 x v vl vu l u s3.heap.objs.size Q I4 r1 (Heap.IsSliceOf.new ..) pl pu q3
  show wpAny (model X.prog X.w) X.A (subscriptTail e (.Slice lo hi none p2) v (.ref s3.heap.objs.size)) (EP X pins σ Q) X.xe { s3 with heap := s3.heap.push { cls := .type "slice", data := .fields #[vl, vu, .none] } }
  exact tail_any (ops := [.ref s3.heap.objs.size, v]) ht hT hg (by with_unfolding_all rfl)

/-- the items of xs[lo:hi] -/
def cutV (xs : List V) (lo hi : Option Int) : List V := (xs.drop (HT.sIx xs.length 0 lo)).take (HT.sIx xs.length xs.length hi - HT.sIx xs.length 0 lo)
theorem cutV_length (xs : List V) (lo hi : Option Int) : (cutV xs lo hi).length ≤ xs.length := by
  unfold cutV
  rw [List.length_take, List.length_drop]
  omega
/-- t[lo:hi], not the whole of it (the whole would be t itself) -/
def rSlT (K : PySem.W.Frag) : V → Option Int → Option Int → Hp → VK → Prop := fun x lo hi H Q => ∃ a xs, x = .ref a ∧ SqT K H a xs ∧
  ¬ (HT.sIx xs.length 0 lo = 0 ∧ HT.sIx xs.length xs.length hi = xs.length) ∧ ∀ p, H p = none → Q (.ref p) (upd H p (.tup (cutV xs lo hi)))
theorem sl_tup : SlR X (rSlT X.K) := by
  intro pins s σ H x v vl vu lo hi sl Q I rx hs pl pu h
  obtain ⟨a, xs, rfl, hx, hw, q⟩ := h
  cases rx
  obtain ⟨its, r, ht, hz⟩ := I.tuple hx
  have hlen : its.toArray.size = xs.length := by rw [List.size_toArray]; exact r.length.symm
  refine ⟨"tuple", _, PyProof.Rows.slot_tuple_getitem.lookup, ht.typeIs, ?_⟩
  refine HT.getItem_tuple_cut ht hs pl pu (by rw [hlen]; exact hw) ?_ (by rw [hlen]; exact hz)
  rw [hlen]
  refine ⟨.ref s.heap.objs.size, _, I.laid (t' := s.toks) (o := .tup (cutV xs lo hi)) (fun b ob q => Heap.get?_push_of_some _ q) (Nat.le_refl _) ?_, rfl, q _ (I.hok.fresh (Nat.le_refl _))⟩
  exact ⟨Nat.le_trans (cutV_length xs lo hi) hz, _, (r.drop (HT.sIx xs.length 0 lo)).take (HT.sIx xs.length xs.length hi - HT.sIx xs.length 0 lo), IsTup.new _ _⟩

/-! ### t < u, t + u -/
def rLtT (K : PySem.W.Frag) : R2 := fun x y H Q => ∃ a b ns ms, x = .ref a ∧ y = .ref b ∧ SqT K H a (ns.map V.int) ∧ SqT K H b (ms.map V.int) ∧ Q (.bl (HT.lexLt ns ms)) H
theorem op_ltT (hu : X.A.units < cLine) : OpR X (compareOp .Lt) (rLtT X.K) := by
  intro pins s σ H x y v u Q I rx ry h
  obtain ⟨a, b, ns, ms, rfl, rfl, ha, hb, q⟩ := h
  cases rx
  cases ry
  obtain ⟨its, r1, p1, _⟩ := I.tuple ha
  obtain ⟨its2, r2, p2, _⟩ := I.tuple hb
  have i1 : IntsAre its.toArray.toList ns := intsAre_of r1
  have i2 : IntsAre its2.toArray.toList ms := intsAre_of r2
  exact HT.lt_tupInts p1 p2 i1 i2 hu ⟨.bl (HT.lexLt ns ms), H, I, rfl, q⟩
/-- t + u, t not empty: u empty gives t itself -/
def rCatT (K : PySem.W.Frag) : R2 := fun x y H Q => ∃ a b xs ys, x = .ref a ∧ y = .ref b ∧ SqT K H a xs ∧ SqT K H b ys ∧ xs ≠ [] ∧ xs.length + ys.length ≤ sizeLine ∧
  (ys = [] → Q (.ref a) H) ∧ (ys ≠ [] → ∀ p, H p = none → Q (.ref p) (upd H p (.tup (xs ++ ys))))
theorem Vals.nil_iff {xs : List V} {us : List Value} (r : Vals xs us) : us = [] ↔ xs = [] := by
  cases r with
  | nil => simp
  | cons _ _ => simp
theorem op_catT : OpR X (binaryOp .Add) (rCatT X.K) := by
  intro pins s σ H x y v u Q I rx ry h
  obtain ⟨a, b, xs, ys, rfl, rfl, ha, hb, hx, hz, q1, q2⟩ := h
  cases rx
  cases ry
  obtain ⟨its, r1, p1, _⟩ := I.tuple ha
  obtain ⟨its2, r2, p2, _⟩ := I.tuple hb
  refine HT.cat_tup p1 p2 (fun z => hx (r1.nil_iff.mp z)) (fun z => ⟨.ref a, H, I, rfl, q1 (r2.nil_iff.mp z)⟩) (fun z => ?_) (by rw [← r1.length, ← r2.length]; exact hz)
  refine ⟨.ref s.heap.objs.size, _, I.laid (t' := s.toks) (o := .tup (xs ++ ys)) (fun b ob q => Heap.get?_push_of_some _ q) (Nat.le_refl _) ?_, rfl, q2 (fun w => z (r2.nil_iff.mpr w)) _ (I.hok.fresh (Nat.le_refl _))⟩
  exact ⟨by rw [List.length_append]; exact hz, _, r1.append r2, IsTup.new _ _⟩
/-- tuple(t) -/
theorem call_tupleT : CallR X (.type "tuple") (fun xs H Q => ∃ a ys, xs = [.ref a] ∧ SqT X.K H a ys ∧ Q (.ref a) H) := by
  intro pins s σ H xs us Q I r h
  obtain ⟨a, ys, rfl, ha, q⟩ := h
  obtain ⟨u, rfl, ru⟩ := vals1 r
  cases ru
  obtain ⟨its, _, p1, _⟩ := I.tuple ha
  exact call_tuple_same (items := its.toArray) p1 ⟨.ref a, H, I, rfl, q⟩
end
end L2

namespace L2
open PySem PySem.Spec PyProof.Rows

/-! ### places -/
/-- the place that an index of any sign means -/
def ixN (n : Nat) (i : Int) : Option Nat := if 0 ≤ i then (if i < n then some i.toNat else none) else if -(n : Int) ≤ i then some (i + n).toNat else none
def atI {α : Type} (xs : List α) (i : Int) : Option α := (ixN xs.length i).bind fun j => xs[j]?
theorem ixN_seq {n : Nat} {i : Int} {j : Nat} (h : ixN n i = some j) : seqIndex? i n = some j ∧ j < n ∧ -(n : Int) ≤ i ∧ i < n := by
  unfold ixN at h
  by_cases h0 : 0 ≤ i
  · rw [if_pos h0] at h
    by_cases h1 : i < n
    · rw [if_pos h1] at h
      have e : i.toNat = j := Option.some.inj h
      exact ⟨by rw [seqIndex_of h0 h1, e], by omega, by omega, h1⟩
    · rw [if_neg h1] at h; cases h
  · rw [if_neg h0] at h
    by_cases h1 : -(n : Int) ≤ i
    · rw [if_pos h1] at h
      have e : (i + n).toNat = j := Option.some.inj h
      exact ⟨by rw [seqIndex_neg (by omega) h1, e], by omega, h1, by omega⟩
    · rw [if_neg h1] at h; cases h
theorem atI_get {α : Type} {xs : List α} {i : Int} {v : α} (h : atI xs i = some v) : ∃ j, seqIndex? i xs.length = some j ∧ xs[j]? = some v ∧ j < xs.length ∧ -(xs.length : Int) ≤ i ∧ i < xs.length := by
  unfold atI at h
  cases e : ixN xs.length i with
  | none => rw [e] at h; cases h
  | some j =>
    rw [e] at h
    obtain ⟨h1, h2, h3, h4⟩ := ixN_seq e
    exact ⟨j, h1, h, h2, h3, h4⟩
theorem atI_nat {α : Type} {xs : List α} {j : Nat} {v : α} (h : xs[j]? = some v) : atI xs (j : Int) = some v := by
  have hj : j < xs.length := (List.getElem?_eq_some_iff.mp h).1
  have e : ixN xs.length (j : Int) = some j := by
    unfold ixN
    rw [if_pos (by omega), if_pos (by omega)]; simp
  unfold atI; rw [e]; exact h
theorem atI_last {α : Type} (xs : List α) (v : α) : atI (xs ++ [v]) (-1) = some v := by
  have hl : (xs ++ [v]).length = xs.length + 1 := by simp
  have e : ixN (xs ++ [v]).length (-1) = some xs.length := by
    unfold ixN
    rw [hl, if_neg (by decide), if_pos (by omega)]
    congr 1
    omega
  unfold atI
  rw [e]
  show (xs ++ [v])[xs.length]? = some v
  simp

/-! ### what may be subscripted -/
/-- what stands as an index of a plain subscript -/
def PlainIx (b : Expr) : Prop := ∀ o i, subscripted b false o i = operate [o, i] (getItem o i)
/-- a subscript by values -/
def IxR (X : Cx) (r : R2) : Prop :=
  ∀ (value slice : Expr) (pins : List (Addr × Obj)) (s : Shared) (σ : St) (H : Hp) (x y : V) (v u : Value) (Q : VK), Inv X pins σ H s → RelV x v → RelV y u → r x y H Q →
    subscripted slice false v u = operate [v, u] (getItem v u) → wpAny (model X.prog X.w) X.A (subscriptTail value slice v u) (EP X pins σ Q) X.xe s
/-- a call of a builtin's method by values: the receiver, the arguments -/
def MtR (X : Cx) (id : String) (r : V → List V → Hp → VK → Prop) : Prop :=
  ∀ (pins : List (Addr × Obj)) (s : Shared) (σ : St) (H : Hp) (x : V) (xs : List V) (v : Value) (us : List Value) (Q : VK), Inv X pins σ H s → RelV x v → Vals xs us → r x xs H Q →
    wpAny (model X.prog X.w) X.A (call (.builtin id) (v :: us)) (EP X pins σ Q) X.xe s
section
variable {X : Cx} {a b : Expr} {ta tb : TE} {pos : Pos}
theorem IxR.or {r r' : R2} (h : IxR X r) (h' : IxR X r') : IxR X (fun x y H Q => r x y H Q ∨ r' x y H Q) := by
  intro value slice pins s σ H x y v u Q I rx ry q hs
  rcases q with q | q
  · exact h value slice pins s σ H x y v u Q I rx ry q hs
  · exact h' value slice pins s σ H x y v u Q I rx ry q hs
theorem MtR.or {id : String} {r r' : V → List V → Hp → VK → Prop} (h : MtR X id r) (h' : MtR X id r') : MtR X id (fun x xs H Q => r x xs H Q ∨ r' x xs H Q) := by
  intro pins s σ H x xs v us Q I rx rs q
  rcases q with q | q
  · exact h pins s σ H x xs v us Q I rx rs q
  · exact h' pins s σ H x xs v us Q I rx rs q
/-- a[b] -/
theorem pe_ix {r : R2} (hr : IxR X r) (ha : PE X a ta) (hb : PE X b tb) (hs : PlainIx b) : PE X (.Subscript a b pos) (tOp r ta tb) := by
  intro pins s σ H Q I h
  exact Subscript_ (binT ha hb I h fun v u s2 x y H2 I2 rx ry q => hr a b pins s2 σ H2 x y v u Q I2 rx ry q (hs _ _))

def rIxL (K : PySem.W.Frag) : R2 := fun x y H Q => ∃ p xs i v, x = .ref p ∧ y = .int i ∧ SqL K H p xs ∧ atI xs i = some v ∧ Q v H
def rIxT (K : PySem.W.Frag) : R2 := fun x y H Q => ∃ p xs i v, x = .ref p ∧ y = .int i ∧ SqT K H p xs ∧ atI xs i = some v ∧ Q v H
def rIxS : R2 := fun x y H Q => ∃ z i c, x = .str z ∧ y = .int i ∧ z.length ≤ sizeLine ∧ atI z.cps.toList i = some c ∧ Q (.str ⟨#[c]⟩) H
theorem ix_list : IxR X (rIxL X.K) := by
  intro value slice pins s σ H x y v u Q I rx ry h hs
  obtain ⟨p, xs, i, z, rfl, rfl, hq, he, q⟩ := h
  cases rx
  obtain ⟨t, rfl⟩ := ry
  obtain ⟨its, r, pl, hz⟩ := I.list hq
  obtain ⟨j, h1, h2, h3, h4, h5⟩ := atI_get he
  obtain ⟨w, ew, rw'⟩ := r.get h2
  have hl := r.length
  have hn := line63
  have fin : EP X pins σ Q w s := ⟨z, H, I, rw', q⟩
  by_cases h0 : 0 ≤ i
  · have hj : i.toNat = j := by
      rw [seqIndex_of h0 h5] at h1
      exact Option.some.inj h1
    exact item_listR pl.isList h0 (by omega) (by rw [hj]; simpa using ew) fin hs
  · have hj : (i + (its.toArray.size : Int)).toNat = j := by
      rw [seqIndex_neg (by omega) h4] at h1
      rw [List.size_toArray, ← hl]
      exact Option.some.inj h1
    exact subscriptTail_builtinR (x := w) pl.isList.typeIs slot_list_getitem.lookup
      (wpAny_getItem_list_neg (Q := fun r s' => r = w ∧ EP X pins σ Q r s') pl.isList (by omega) (by rw [List.size_toArray] <;> omega) (by omega) (by rw [hj]; simpa using ew) ⟨rfl, fin⟩) hs
theorem ix_tup : IxR X (rIxT X.K) := by
  intro value slice pins s σ H x y v u Q I rx ry h hs
  obtain ⟨p, xs, i, z, rfl, rfl, hq, he, q⟩ := h
  cases rx
  obtain ⟨t, rfl⟩ := ry
  obtain ⟨its, r, pl, hz⟩ := I.tuple hq
  obtain ⟨j, h1, h2, h3, h4, h5⟩ := atI_get he
  obtain ⟨w, ew, rw'⟩ := r.get h2
  have hl := r.length
  have hn := line63
  have fin : EP X pins σ Q w s := ⟨z, H, I, rw', q⟩
  exact subscriptTail_builtinR (x := w) pl.typeIs slot_tuple_getitem.lookup
    (getItem_tuple (j := j) (Q := fun r s' => r = w ∧ EP X pins σ Q r s') pl (by omega) (by omega) (by rw [List.size_toArray, ← hl]; exact h1) (by simpa using ew) ⟨rfl, fin⟩) hs
theorem ix_str : IxR X rIxS := by
  intro value slice pins s σ H x y v u Q I rx ry h hs
  obtain ⟨z, i, c, rfl, rfl, hz, he, q⟩ := h
  obtain ⟨t, rfl⟩ := rx
  obtain ⟨t', rfl⟩ := ry
  obtain ⟨j, h1, h2, h3, h4, h5⟩ := atI_get he
  have hl : z.cps.toList.length = z.length := by simp [Str.length]
  rw [hl] at h1 h4 h5
  have hn := line63
  exact tail_any (typeIs_str s z t) slot_str_getitem.lookup (getItem_str (c := c) (by
    have e1 : decide (i < -(2 ^ 63 : Int)) = false := decide_eq_false (by omega)
    have e2 : decide (i ≥ 2 ^ 63) = false := decide_eq_false (by omega)
    rw [e1, e2, Bool.or_false]) (by rw [h1]; simpa using h2) ⟨.str ⟨#[c]⟩, H, I.tok _, ⟨_, rfl⟩, q⟩) hs
/-- list, tuple or str -/
def rIx (K : PySem.W.Frag) : R2 := fun x y H Q => rIxL K x y H Q ∨ rIxT K x y H Q ∨ rIxS x y H Q
theorem ix_seq : IxR X (rIx X.K) := ix_list.or (ix_tup.or ix_str)

/-! ### xs[i] = v, any sign -/
/-- the list's object behind a store -/
theorem mapSeq_set (its : List Value) (n j : Nat) (u : Value) : Obj.mapSeq (·.setIfInBounds j u) { cls := .type "list", data := .seq its.toArray n } = { cls := .type "list", data := .seq (its.set j u).toArray n } := by
  simp [Obj.mapSeq]
theorem Inv.lst {pins : List (Addr × Obj)} {σ : St} {H : Hp} {s : Shared} {p : Addr} {xs : List V} (I : Inv X pins σ H s) (h : H p = some (.lst xs)) :
    ∃ (its : List Value) (n : Nat), Vals xs its ∧ s.heap.get? p = some { cls := .type "list", data := .seq its.toArray n } ∧ xs.length ≤ sizeLine := by
  obtain ⟨z, its, n, r, e⟩ := I.hok p _ h
  exact ⟨its, n, r, e, z⟩
/-- the list at p is written by an update of its object -/
theorem Inv.lstUpd {pins : List (Addr × Obj)} {σ : St} {H : Hp} {s : Shared} {p : Addr} {xs ys : List V} {its its' : List Value} {n n' : Nat} {f : Obj → Obj} (I : Inv X pins σ H s) (h : H p = some (.lst xs))
    (ho : s.heap.get? p = some { cls := .type "list", data := .seq its.toArray n }) (hf : f { cls := .type "list", data := .seq its.toArray n } = { cls := .type "list", data := .seq its'.toArray n' }) (r : Vals ys its') (hz : ys.length ≤ sizeLine) (t : Nat) :
    Inv X pins σ (upd H p (.lst ys)) { s with heap := s.heap.update p f, toks := t } := by
  have e : (s.heap.update p f).get? p = some { cls := .type "list", data := .seq its'.toArray n' } := by
    rw [Heap.get?_update_self f ho (by rw [hf] <;> rfl), hf]
  refine I.write (x := p) (e := p) (by rw [h]; trivial) (.inl rfl) (fun b u hb q => (Heap.get?_update_other _ _ (Ne.symm hb)).trans q) ⟨_, e⟩ ?_
  exact ⟨hz, its', n', r, e⟩
def rSetL : V → V → V → Hp → (Hp → Prop) → Prop := fun o i v H Q => ∃ p xs k j, o = .ref p ∧ i = .int k ∧ H p = some (.lst xs) ∧ ixN xs.length k = some j ∧ Q (upd H p (.lst (xs.set j v)))
theorem set_list : PSet X rSetL := by
  intro pins s σ H o i v ov iv u Q I ro ri rv h
  obtain ⟨p, xs, k, j, rfl, rfl, hp, hj, q⟩ := h
  cases ro
  obtain ⟨t, rfl⟩ := ri
  obtain ⟨its, n, r, ho, hz⟩ := I.lst hp
  obtain ⟨h1, h2, h3, h4⟩ := ixN_seq hj
  have hl := r.length
  have hn := line63
  have I' : Inv X pins σ (upd H p (.lst (xs.set j v))) { s with heap := s.heap.update p (Obj.mapSeq (·.setIfInBounds j u)) } :=
    I.lstUpd hp ho (mapSeq_set its n j u) (r.set rv j) (by rw [List.length_set]; exact hz) s.toks
  by_cases h0 : 0 ≤ k
  · have hk : k.toNat = j := by
      rw [seqIndex_of h0 h4] at h1
      exact Option.some.inj h1
    exact PySem.W.ki_setAt ho h0 (by omega) (by rw [List.size_toArray, ← hl]; exact h4) (by rw [hk]; exact ⟨_, I', q⟩)
  · have hk : (k + (its.toArray.size : Int)).toNat = j := by
      rw [seqIndex_neg (by omega) h3] at h1
      rw [List.size_toArray, ← hl]
      exact Option.some.inj h1
    exact PySem.W.ki_setBack ho (by omega) (by rw [List.size_toArray, ← hl]; exact h3) (by omega) (by rw [hk]; exact ⟨_, I', q⟩)

/-! ### slices -/
theorem slice_bounds (lo hi : Option Int) (n : Nat) : (sliceBounds lo hi none n).1 = ((HT.sIx n 0 lo : Nat) : Int) ∧ (sliceBounds lo hi none n).2.1 = ((HT.sIx n n hi : Nat) : Int) ∧ (sliceBounds lo hi none n).2.2 = 1 := by
  refine ⟨?_, ?_, rfl⟩
  · cases lo with
    | none => simp [sliceBounds, HT.sIx]
    | some i =>
      simp only [sliceBounds, HT.sIx, Option.getD_none, show (1 : Int) > 0 by decide, if_true]
      by_cases h : i < 0
      · simp only [h, if_true] <;> omega
      · simp only [h, if_false] <;> omega
  · cases hi with
    | none => simp [sliceBounds, HT.sIx]
    | some i =>
      simp only [sliceBounds, HT.sIx, Option.getD_none, show (1 : Int) > 0 by decide, if_true]
      by_cases h : i < 0
      · simp only [h, if_true] <;> omega
      · simp only [h, if_false] <;> omega
theorem slicePick_cut (its : List Value) (lo hi : Option Int) : slicePick its.toArray lo hi none = ((its.drop (HT.sIx its.length 0 lo)).take (HT.sIx its.length its.length hi - HT.sIx its.length 0 lo)).toArray := by
  obtain ⟨h1, h2, h3⟩ := slice_bounds lo hi its.toArray.size
  unfold slicePick
  rw [h1, h2, h3]
  simp only [sliceRange_one, pick_run, List.size_toArray] <;> rfl
/-- xs[lo:hi] of a list: a new list -/
def rSlL (K : PySem.W.Frag) : V → Option Int → Option Int → Hp → VK → Prop := fun x lo hi H Q => ∃ a xs, x = .ref a ∧ SqL K H a xs ∧ ∀ p, H p = none → Q (.ref p) (upd H p (.lst (cutV xs lo hi)))
theorem sl_list : SlR X (rSlL X.K) := by
  intro pins s σ H x v vl vu lo hi sl Q I rx hs pl pu h
  obtain ⟨a, xs, rfl, hx, q⟩ := h
  cases rx
  obtain ⟨its, r, ht, hz⟩ := I.list hx
  have hlen := r.length
  refine ⟨"list", _, slot_list_getitem.lookup, ht.isList.typeIs, ?_⟩
  refine wpAny_getItem_list_slice ht.isList hs pl pu .none (by simp) ?_ (by rw [List.size_toArray] <;> omega)
  rw [slicePick_cut, ← hlen]
  refine ⟨.ref s.heap.objs.size, _, I.laid (t' := s.toks) (o := .lst (cutV xs lo hi)) (fun b ob q => Heap.get?_push_of_some _ q) (Nat.le_refl _) ?_, rfl, q _ (I.hok.fresh (Nat.le_refl _))⟩
  exact ⟨Nat.le_trans (cutV_length xs lo hi) hz, _, 0, (r.drop (HT.sIx xs.length 0 lo)).take (HT.sIx xs.length xs.length hi - HT.sIx xs.length 0 lo), Heap.get?_push_size _ rfl⟩

/-! ### in, not in: flat items -/
def flatV : V → Bool
  | .non => true
  | .bl _ => true
  | .int _ => true
  | .str _ => true
  | _ => false
/-- == of flat values -/
def eqV : V → V → Bool
  | .non, .non => true
  | .bl a, .bl b => a == b
  | .bl a, .int b => (if a then 1 else 0) == b
  | .int a, .bl b => a == (if b then 1 else 0)
  | .int a, .int b => a == b
  | .str a, .str b => a == b
  | _, _ => false
theorem eqAt_V {A : Around} {s : Shared} {y x : V} {u v : Value} (ry : RelV y u) (rx : RelV x v) (fy : flatV y = true) (fx : flatV x = true) : SeqAt.EqAt A s u v (eqV y x) := by
  cases y with
  | non =>
    cases ry
    cases x with
    | non => cases rx; exact SeqAt.EqAt.same _
    | bl b => cases rx; exact SeqAt.EqAt.none_bool b
    | int b => obtain ⟨t, rfl⟩ := rx; exact SeqAt.EqAt.none_int b t
    | str b => obtain ⟨t, rfl⟩ := rx; exact SeqAt.EqAt.none_str b t
    | _ => exact absurd (show false = true from fx) Bool.false_ne_true
  | bl a =>
    cases ry
    cases x with
    | non => cases rx; exact SeqAt.EqAt.bool_none a
    | bl b => cases rx; exact SeqAt.EqAt.bool_bool a b
    | int b => obtain ⟨t, rfl⟩ := rx; exact SeqAt.EqAt.bool_int a b t
    | str b => obtain ⟨t, rfl⟩ := rx; exact SeqAt.EqAt.bool_str a b t
    | _ => exact absurd (show false = true from fx) Bool.false_ne_true
  | int a =>
    obtain ⟨t', rfl⟩ := ry
    cases x with
    | non => cases rx; exact SeqAt.EqAt.int_none a t'
    | bl b => cases rx; exact SeqAt.EqAt.int_bool a t' b
    | int b => obtain ⟨t, rfl⟩ := rx; exact SeqAt.EqAt.int_int a t' b t
    | str b => obtain ⟨t, rfl⟩ := rx; exact SeqAt.EqAt.int_str a t' b t
    | _ => exact absurd (show false = true from fx) Bool.false_ne_true
  | str a =>
    obtain ⟨t', rfl⟩ := ry
    cases x with
    | non => cases rx; exact SeqAt.EqAt.str_none a t'
    | bl b => cases rx; exact SeqAt.EqAt.str_bool a t' b
    | int b => obtain ⟨t, rfl⟩ := rx; exact SeqAt.EqAt.str_int a t' b t
    | str b => obtain ⟨t, rfl⟩ := rx; exact SeqAt.EqAt.str_str a t' b t
    | _ => exact absurd (show false = true from fx) Bool.false_ne_true
  | _ => exact absurd (show false = true from fy) Bool.false_ne_true
/-- the items' answers, read off the values (a value's own answer does not lean on its token) -/
def eqU (x : V) (u : Value) : Bool := match u with
  | .none => eqV .non x
  | .bool b => eqV (.bl b) x
  | .int i _ => eqV (.int i) x
  | .str z _ => eqV (.str z) x
  | _ => false
theorem eqU_of {x y : V} {u : Value} (r : RelV y u) (f : flatV y = true) : eqU x u = eqV y x := by
  cases y with
  | non => cases r; rfl
  | bl b => cases r; rfl
  | int i => obtain ⟨t, rfl⟩ := r; rfl
  | str z => obtain ⟨t, rfl⟩ := r; rfl
  | _ => exact absurd (show false = true from f) Bool.false_ne_true
theorem any_eqU {x : V} : ∀ {xs : List V} {us : List Value}, Vals xs us → xs.all flatV = true → us.any (eqU x) = xs.any fun y => eqV y x
  | _, _, .nil, _ => rfl
  | y :: xs, u :: us, .cons r t, f => by
    rw [List.all_cons, Bool.and_eq_true] at f
    rw [List.any_cons, List.any_cons, eqU_of r f.1, any_eqU t f.2]
theorem mem_eqAt {A : Around} {s : Shared} {x : V} {v : Value} (rx : RelV x v) (fx : flatV x = true) : ∀ {xs : List V} {us : List Value}, Vals xs us → xs.all flatV = true → ∀ u ∈ us, SeqAt.EqAt A s u v (eqU x u)
  | _, _, .nil, _ => fun u hu => by cases hu
  | y :: xs, u :: us, .cons r t, f => fun u' hu => by
    rw [List.all_cons, Bool.and_eq_true] at f
    rcases List.mem_cons.mp hu with rfl | hu
    · rw [eqU_of r f.1]; exact eqAt_V r rx f.1 fx
    · exact mem_eqAt rx fx t f.2 u' hu
def inV (x : V) (xs : List V) : Bool := xs.any fun y => eqV y x
/-- x in a list or tuple of flat items -/
def rIn (K : PySem.W.Frag) (neg : Bool) : R2 := fun x y H Q => ∃ p xs, y = .ref p ∧ (SqL K H p xs ∨ SqT K H p xs) ∧ flatV x = true ∧ xs.all flatV = true ∧ Q (.bl (if neg then !inV x xs else inV x xs)) H
theorem op_in_seq : OpR X (compareOp .In) (rIn X.K false) := by
  intro pins s σ H x y v u Q I rx ry h
  obtain ⟨p, xs, rfl, hq, fx, fs, q⟩ := h
  cases ry
  rcases hq with hq | hq
  · obtain ⟨its, r, pl, hz⟩ := I.list hq
    refine SeqAt.in_listAt (eqU x) pl.isList (fun w hw => mem_eqAt rx fx r fs w (by simpa using hw)) ⟨.bl _, H, I, rfl, ?_⟩
    rw [show its.toArray.any (eqU x) = its.any (eqU x) by simp, any_eqU r fs]
    exact q
  · obtain ⟨its, r, pl, hz⟩ := I.tuple hq
    refine SeqAt.in_tupleAt (eqU x) pl (fun w hw => mem_eqAt rx fx r fs w (by simpa using hw)) ⟨.bl _, H, I, rfl, ?_⟩
    rw [show its.toArray.any (eqU x) = its.any (eqU x) by simp, any_eqU r fs]
    exact q
theorem op_notIn_seq : OpR X (compareOp .NotIn) (rIn X.K true) := by
  intro pins s σ H x y v u Q I rx ry h
  obtain ⟨p, xs, rfl, hq, fx, fs, q⟩ := h
  cases ry
  rcases hq with hq | hq
  · obtain ⟨its, r, pl, hz⟩ := I.list hq
    refine SeqAt.notIn_listAt (eqU x) pl.isList (fun w hw => mem_eqAt rx fx r fs w (by simpa using hw)) ⟨.bl _, H, I, rfl, ?_⟩
    rw [show its.toArray.any (eqU x) = its.any (eqU x) by simp, any_eqU r fs]
    exact q
  · obtain ⟨its, r, pl, hz⟩ := I.tuple hq
    refine SeqAt.notIn_tupleAt (eqU x) pl (fun w hw => mem_eqAt rx fx r fs w (by simpa using hw)) ⟨.bl _, H, I, rfl, ?_⟩
    rw [show its.toArray.any (eqU x) = its.any (eqU x) by simp, any_eqU r fs]
    exact q
theorem op_notIn_str : OpR X (compareOp .NotIn) (fun x y H Q => ∃ i j, x = .str i ∧ y = .str j ∧ Q (.bl (!(!(Builtin.Str.occurrences j i 0 j.length 1).isEmpty))) H) := by
  intro pins s σ H x y v u Q I rx ry h
  obtain ⟨i, j, rfl, rfl, q⟩ := h
  obtain ⟨t, rfl⟩ := rx
  obtain ⟨t', rfl⟩ := ry
  exact notIn_str ⟨.bl _, H, I, rfl, q⟩

/-! ### len, list(x), tuple(x) of any list or tuple that is read -/
theorem call_len_seq : CallR X (.builtin "len") (fun xs H Q => ∃ p ys, xs = [.ref p] ∧ (SqL X.K H p ys ∨ SqT X.K H p ys) ∧ Q (.int ys.length) H) := by
  intro pins s σ H xs us Q I r h
  obtain ⟨p, ys, rfl, hq, q⟩ := h
  obtain ⟨u, rfl, rx⟩ := vals1 r
  cases rx
  have hn := line63
  rcases hq with hq | hq
  · obtain ⟨its, r', pl, hz⟩ := I.list hq
    have hlen := r'.length
    exact Calls.call_len_list pl.isList (by simp only [List.size_toArray] <;> omega) ⟨.int ys.length, H, I.tok _, ⟨s.toks + 1, by rw [List.size_toArray, hlen]⟩, q⟩
  · obtain ⟨its, r', pl, hz⟩ := I.tuple hq
    have hlen := r'.length
    exact len_tuple pl (by simp only [List.size_toArray] <;> omega) ⟨.int ys.length, H, I.tok _, ⟨s.toks + 1, by rw [List.size_toArray, hlen]⟩, q⟩
theorem call_len_str : CallR X (.builtin "len") (fun xs H Q => ∃ z, xs = [.str z] ∧ z.length ≤ sizeLine ∧ Q (.int z.length) H) := by
  intro pins s σ H xs us Q I r h
  obtain ⟨z, rfl, hz, q⟩ := h
  obtain ⟨u, rfl, t, rfl⟩ := vals1 r
  have hn := line63
  exact len_str (by omega) ⟨.int z.length, H, I.tok _, ⟨_, rfl⟩, q⟩
theorem CallR.or {f : Value} {r r' : List V → Hp → VK → Prop} (h : CallR X f r) (h' : CallR X f r') : CallR X f (fun xs H Q => r xs H Q ∨ r' xs H Q) := by
  intro pins s σ H xs us Q I rs q
  rcases q with q | q
  · exact h pins s σ H xs us Q I rs q
  · exact h' pins s σ H xs us Q I rs q
theorem call_list_of : CallR X (.type "list") (fun xs H Q => ∃ p ys, xs = [.ref p] ∧ (SqL X.K H p ys ∨ SqT X.K H p ys) ∧ ∀ l, H l = none → Q (.ref l) (upd H l (.lst ys))) := by
  intro pins s σ H xs us Q I r h
  obtain ⟨p, ys, rfl, hq, q⟩ := h
  obtain ⟨u, rfl, rx⟩ := vals1 r
  cases rx
  have fin : ∀ (its : List Value), Vals ys its → ys.length ≤ sizeLine → ∀ (h' : Heap) (c' : Nat), (∀ b o', s.heap.get? b = some o' → h'.get? b = some o') →
      h'.get? s.heap.objs.size = some { cls := .type "list", dict := none, data := .seq its.toArray c', slots := #[] } → EP X pins σ Q (.ref s.heap.objs.size) { s with heap := h' } := fun its r' hz h' c' kp e =>
    ⟨.ref s.heap.objs.size, _, I.laid (t' := s.toks) kp (Nat.le_refl _) (show ObjOk X.prog X.w _ h' _ (.lst ys) from ⟨hz, its, c', r', e⟩), rfl, q _ (I.hok.fresh (Nat.le_refl _))⟩
  rcases hq with hq | hq
  · obtain ⟨its, r', pl, hz⟩ := I.list hq
    have hlen := r'.length
    obtain ⟨o, ho, hc, n, hd⟩ := pl.isList
    exact call_list_seq p (.inl rfl) ho hc hd (fun h' c' kp e => fin its r' hz h' c' kp e) (by simp only [List.size_toArray] <;> omega)
  · obtain ⟨its, r', pl, hz⟩ := I.tuple hq
    have hlen := r'.length
    obtain ⟨o, ho, hc, n, hd⟩ := pl
    exact call_list_seq p (.inr rfl) ho hc hd (fun h' c' kp e => fin its r' hz h' c' kp e) (by simp only [List.size_toArray] <;> omega)
theorem call_tuple_of : CallR X (.type "tuple") (fun xs H Q => ∃ p ys, xs = [.ref p] ∧ ((SqL X.K H p ys ∧ ∀ l, H l = none → Q (.ref l) (upd H l (.tup ys))) ∨ (SqT X.K H p ys ∧ Q (.ref p) H))) := by
  intro pins s σ H xs us Q I r h
  obtain ⟨p, ys, rfl, h⟩ := h
  obtain ⟨u, rfl, rx⟩ := vals1 r
  cases rx
  rcases h with ⟨hq, q⟩ | ⟨hq, q⟩
  · obtain ⟨its, r', pl, hz⟩ := I.list hq
    have hlen := r'.length
    refine call_tuple_list pl.isList (fun h' kp => ?_) (by simp only [List.size_toArray] <;> omega)
    have I1 : Inv X pins σ H { s with heap := h' } := I.kept (t' := s.toks) kp
    have I2 : Inv X pins σ (upd H h'.objs.size (.tup ys)) { s with heap := h'.push { cls := .type "tuple", data := .seq its.toArray } } :=
      I1.laid (t' := s.toks) (fun b o e => Heap.get?_push_of_some _ e) (Nat.le_refl _) (show ObjOk X.prog X.w _ _ _ (.tup ys) from ⟨hz, its, r', IsTup.new _ _⟩)
    exact ⟨.ref h'.objs.size, _, I2, rfl, q _ (I1.hok.fresh (Nat.le_refl _))⟩
  · obtain ⟨its, r', pl, hz⟩ := I.tuple hq
    exact call_tuple_same pl ⟨.ref p, H, I, rfl, q⟩

/-! ### the call of a builtin's method: o.m(..) -/
/-- the value is of that builtin type -/
def tyV (K : PySem.W.Frag) (T : String) (x : V) (H : Hp) : Prop := match x with
  | .str _ => T = "str"
  | .int _ => T = "int"
  | .ref p => (T = "list" ∧ ∃ xs, SqL K H p xs) ∨ (T = "tuple" ∧ ∃ o, K.lookup p = some o ∧ o.cls = .type "tuple" ∧ o.dict = none) ∨
      (T = "dict" ∧ ((∃ kvs, H p = some (.dK kvs)) ∨ ∃ kvs, H p = some (.dT kvs))) ∨ (T = "set" ∧ ∃ S n, H p = some (.set S n))
  | _ => False
theorem tyV_is {pins : List (Addr × Obj)} {σ : St} {H : Hp} {s : Shared} {T : String} {x : V} {v : Value} (I : Inv X pins σ H s) (r : RelV x v) (ty : tyV X.K T x H) :
    s.TypeIs v T ∧ ∀ a, v = .ref a → ∃ ob, s.heap.get? a = some ob ∧ ob.dict = none := by
  cases x with
  | str z =>
    obtain ⟨t, rfl⟩ := r
    cases (show T = "str" from ty)
    exact ⟨typeIs_str s z t, fun _ e => nomatch e⟩
  | int i =>
    obtain ⟨t, rfl⟩ := r
    cases (show T = "int" from ty)
    exact ⟨typeIs_int s i t, fun _ e => nomatch e⟩
  | ref p =>
    cases r
    rcases ty with ⟨rfl, xs, hq⟩ | ⟨rfl, o, hk, hc, hd⟩ | ⟨rfl, hk⟩ | ⟨rfl, S, n, hk⟩
    · obtain ⟨its, _, pl, _⟩ := I.list hq
      refine ⟨pl.isList.typeIs, fun a e => ?_⟩
      cases e
      obtain ⟨o, n, e, c, hd, _⟩ := pl
      exact ⟨o, e, hd⟩
    · refine ⟨⟨o, I.kIn p o hk, hc⟩, fun a e => ?_⟩
      cases e
      exact ⟨o, I.kIn _ o hk, hd⟩
    · have z : ∃ o, s.heap.get? p = some o ∧ o.ExactDict := by
        rcases hk with ⟨kvs, hk⟩ | ⟨kvs, hk⟩
        · obtain ⟨_, _, _, _, o, _, _, e, ex, _⟩ := I.hok p _ hk
          exact ⟨o, e, ex⟩
        · obtain ⟨_, _, _, _, o, _, _, e, ex, _⟩ := I.hok p _ hk
          exact ⟨o, e, ex⟩
      obtain ⟨o, e, ex⟩ := z
      refine ⟨⟨o, e, ex.1⟩, fun a e2 => ?_⟩
      cases e2
      exact ⟨o, e, ex.2.1⟩
    · obtain ⟨o, _, _, _, e, ex, _⟩ := I.hok p _ hk
      refine ⟨⟨o, e, ex.1⟩, fun a e2 => ?_⟩
      cases e2
      exact ⟨o, e, ex.2.1⟩
  | _ => exact False.elim ty
def tBM0 (K : PySem.W.Frag) (T : String) (r : V → List V → Hp → VK → Prop) (to : TE) : TE := fun σ H Q => to σ H fun x H1 => tyV K T x H1 ∧ r x [] H1 Q
def tBM (K : PySem.W.Frag) (T : String) (r : V → List V → Hp → VK → Prop) (to : TE) (t : TA) : TE := fun σ H Q => to σ H fun x H1 => tyV K T x H1 ∧ t σ H1 fun xs H2 => r x xs H2 Q
variable {o e : Expr} {es : List Expr} {to : TE} {t : TA} {name : Str} {apos cpos : Pos} {T id : String} {r : V → List V → Hp → VK → Prop}
theorem pe_bm0 (pa : PlainAttrs T) (slot : Slot T name id) (hty : typeOf (.builtin id) = pure (.type "method_descriptor")) (hm : MtR X id r) (ho : PE X o to)
    (hbase : attributeBase o name X.env (eval o X.env) = eval o X.env := by rfl) (hline : (apos.endLine == cpos.line) = true := by rfl) : PE X (.Call (.Attribute o name apos) [] [] cpos) (tBM0 X.K T r to) := by
  intro pins s σ H Q I h
  refine wpAny_Call_method0_late hbase hline (thn (ho pins s σ H _ I h) fun v s1 ⟨x, H1, I1, r1, ty, q1⟩ => ?_)
  obtain ⟨h1, h2⟩ := tyV_is I1 r1 ty
  exact ⟨T, id, pa, slot, hty, h1, h2, Calls.callWith_builtin rfl (PySem.evalArgs_none (hm pins s1 σ H1 x [] v [] Q I1 r1 .nil q1))⟩
theorem pe_bm (pa : PlainAttrs T) (slot : Slot T name id) (hty : typeOf (.builtin id) = pure (.type "method_descriptor")) (hm : MtR X id r) (ho : PE X o to) (ha : PA X (e :: es) t)
    (hbase : attributeBase o name X.env (eval o X.env) = eval o X.env := by rfl)
    (hfew : ((backTo cpos (starEach (e :: es) X.env)).all (fun x => !x.1) && (backToKw cpos (keywordEach [] X.env)).all (fun x => x.1.isSome)
      && decide ((e :: es).length + ([] : List Keyword).length + (if ([] : List Keyword).isEmpty then 0 else 1) < 30)) = true := by rfl)
    (hline : (apos.endLine == cpos.line) = true := by rfl) (hs : starEach (e :: es) X.env = (false, eval e X.env) :: starEach es X.env := by rfl) (hplain : (backTo cpos (starEach es X.env)).any (·.1) = false := by rfl) :
    PE X (.Call (.Attribute o name apos) (e :: es) [] cpos) (tBM X.K T r to t) := by
  intro pins s σ H Q I h
  refine wpAny_Call_method_late hbase hfew hline rfl (thn (ho pins s σ H _ I h) fun v s1 ⟨x, H1, I1, r1, ty, q1⟩ => ?_)
  obtain ⟨h1, h2⟩ := tyV_is I1 r1 ty
  refine ⟨T, id, pa, slot, hty, h1, h2, ?_⟩
  have hA := ha cpos pins s1 σ H1 _ I1 q1
  rw [hs] at hA ⊢
  refine Calls.callWith_builtin (by show (false || (backTo cpos (starEach es X.env)).any (·.1)) = false; rw [hplain] <;> rfl) (Calls.evalArgs_plain ?_)
  exact thn hA fun us s2 ⟨vs, H2, I2, r2, q2⟩ => hm pins s2 σ H2 x vs v us Q I2 r1 r2 q2
/- xs.append(e), list.index on a module's tuple .. are MtR facts of 06m -/
end
end L2

namespace L2
open PySem PySem.Spec PyProof.Rows

def MtM (X : Cx) (id : String) (r : V → List V → Hp → VK → Prop) : Prop :=
  ∀ (pins : List (Addr × Obj)) (s : Shared) (σ : St) (H : Hp) (x : V) (xs : List V) (v : Value) (us : List Value) (Q : VK), Inv X pins σ H s → RelV x v → Vals xs us → r x xs H Q →
    wpAny (model X.prog X.w) X.A (call (.builtin id) (v :: us)) (EP X pins σ Q) X.xe s

/-! ### lists of values -/
theorem Vals.one : ∀ {x : V} {us : List Value}, Vals [x] us → ∃ u, us = [u] ∧ RelV x u
  | _, _, .cons r .nil => ⟨_, rfl, r⟩
theorem Vals.two : ∀ {x y : V} {us : List Value}, Vals [x, y] us → ∃ u v, us = [u, v] ∧ RelV x u ∧ RelV y v
  | _, _, _, .cons r (.cons q .nil) => ⟨_, _, rfl, r, q⟩
theorem Vals.zero : ∀ {us : List Value}, Vals [] us → us = []
  | _, .nil => rfl
theorem Vals.dropLast {xs : List V} {us : List Value} (h : Vals xs us) : Vals xs.dropLast us.dropLast := by
  induction h with
  | nil => exact .nil
  | cons r t ih =>
    cases t with
    | nil => exact .nil
    | cons q t' => exact .cons r ih
theorem Vals.eraseIdx : ∀ {xs : List V} {us : List Value} (i : Nat), Vals xs us → Vals (xs.eraseIdx i) (us.eraseIdx i)
  | _, _, _, .nil => .nil
  | _, _, 0, .cons _ t => t
  | _, _, i + 1, .cons r t => .cons r (Vals.eraseIdx i t)
theorem Vals.reverse {xs : List V} {us : List Value} (h : Vals xs us) : Vals xs.reverse us.reverse := by
  induction h with
  | nil => exact .nil
  | cons r t ih => rw [List.reverse_cons, List.reverse_cons]; exact Vals.append ih (.cons r .nil)
theorem Vals.rep {xs : List V} {us : List Value} (h : Vals xs us) : ∀ k : Nat, Vals (List.replicate k xs).flatten (List.replicate k us).flatten
  | 0 => .nil
  | k + 1 => by
    rw [List.replicate_succ, List.replicate_succ, List.flatten_cons, List.flatten_cons]
    exact Vals.append h (Vals.rep h k)
theorem erase_last {α : Type} (l : List α) : l.eraseIdx (l.length - 1) = l.dropLast := by
  induction l with
  | nil => rfl
  | cons a r ih =>
    cases r with
    | nil => rfl
    | cons b r =>
      have e : (a :: b :: r).length - 1 = ((b :: r).length - 1) + 1 := by
        have h1 : (a :: b :: r).length = r.length + 2 := rfl
        have h2 : (b :: r).length = r.length + 1 := rfl
        omega
      rw [e, List.eraseIdx_cons_succ, ih]
      all_goals rfl
theorem len_erase {α : Type} : ∀ (l : List α) (i : Nat), (l.eraseIdx i).length ≤ l.length
  | [], _ => Nat.le_refl _
  | _ :: _, 0 => Nat.le_succ _
  | _ :: r, i + 1 => Nat.succ_le_succ (len_erase r i)
theorem foldl_rep (its : List Value) : ∀ (k : Nat) (acc : List Value),
    List.foldl (fun x1 x2 => x1 ++ x2) acc.toArray (List.replicate k its.toArray) = (acc ++ (List.replicate k its).flatten).toArray
  | 0, acc => by simp
  | k + 1, acc => by
    have e : acc.toArray ++ its.toArray = (acc ++ its).toArray := by simp
    have e2 : (acc ++ its) ++ (List.replicate k its).flatten = acc ++ (List.replicate (k + 1) its).flatten := by
      rw [List.replicate_succ, List.flatten_cons, List.append_assoc]
    rw [← e2, ← foldl_rep its k (acc ++ its), ← e, List.replicate_succ, List.foldl_cons]

section
variable {X : Cx} {pins : List (Addr × Obj)} {σ : St} {H : Hp} {s : Shared} {l b : Addr} {xs ys zs : List V}

/-! ### the two steps: a tracked list is rewritten, a new list is laid -/
theorem Inv.lset {its its' : List Value} {n : Nat} {f : Array Value → Array Value} {t' : Nat} (I : Inv X pins σ H s) (hH : H l = some (.lst xs))
    (e : s.heap.get? l = some { cls := .type "list", data := .seq its.toArray n }) (hf : f its.toArray = its'.toArray) (hv : Vals ys its') (hz : ys.length ≤ sizeLine) :
    Inv X pins σ (upd H l (.lst ys)) { s with heap := s.heap.update l (Obj.mapSeq f), toks := t' } := by
  have q := PySem.IsL.update e f
  rw [hf] at q
  refine I.write (x := l) (e := l) (by rw [hH]; exact trivial) (.inl rfl) (fun b' u hb hu => (Heap.get?_update_other s.heap (Obj.mapSeq f) (Ne.symm hb)).trans hu) ⟨_, q⟩ ?_
  exact ⟨hz, its', _, hv, q⟩
theorem Inv.lnew {its : List Value} {t' : Nat} (I : Inv X pins σ H s) (hv : Vals ys its) (hz : ys.length ≤ sizeLine) :
    Inv X pins σ (upd H s.heap.objs.size (.lst ys)) { s with heap := s.heap.push { cls := .type "list", data := .seq its.toArray }, toks := t' } :=
  I.laid (fun _ _ q => Heap.get?_push_of_some _ q) (Nat.le_refl _) ⟨hz, its, 0, hv, Heap.get?_push_size _ rfl⟩
theorem Inv.fresh (I : Inv X pins σ H s) : H s.heap.objs.size = none := I.hok.fresh (Nat.le_refl _)
theorem Inv.lstM (I : Inv X pins σ H s) (hH : H l = some (.lst xs)) : xs.length ≤ sizeLine ∧ ∃ (its : List Value) (n : Nat), Vals xs its ∧ xs.length = its.length ∧ s.heap.get? l = some { cls := .type "list", data := .seq its.toArray n } := by
  obtain ⟨z, its, n, r, e⟩ := I.hok l _ hH
  exact ⟨z, its, n, r, r.length, e⟩

theorem notLongL {n : Nat} (h : n ≤ sizeLine) : Builtin.List.listTooLong n = false := by
  unfold Builtin.List.listTooLong
  exact decide_eq_false (by omega)
end

section
variable {X : Cx}

/-! ### methods -/
def rAppend : V → List V → Hp → VK → Prop := fun x vs H Q => ∃ l xs y, x = .ref l ∧ vs = [y] ∧ H l = some (.lst xs) ∧ xs.length < sizeLine ∧ Q .non (upd H l (.lst (xs ++ [y])))
theorem mt_append : MtM X "list.append" rAppend := by
  intro pins s σ H x vs v us Q I rx rv h
  obtain ⟨l, xs, y, rfl, rfl, hH, hz, q⟩ := h
  cases rx
  obtain ⟨u, rfl, ru⟩ := rv.one
  obtain ⟨z, its, n, r, hl, e⟩ := I.lstM hH
  refine call_meets F.slot_list_append ⟨_, e, rfl⟩ F.entry_list_append (F.args_list_append_2 _ _) (PySem.list_append l its.toArray n u (by rw [List.size_toArray]; omega)) ⟨e, ?_⟩
  refine ⟨.non, _, I.lset (its' := its ++ [u]) hH e (by simp) (r.append (.cons ru .nil)) ?_, rfl, q⟩
  rw [List.length_append, List.length_singleton]
  omega

def rExtend : V → List V → Hp → VK → Prop := fun x vs H Q => ∃ l b xs zs, x = .ref l ∧ vs = [.ref b] ∧ H l = some (.lst xs) ∧ H b = some (.lst zs) ∧ xs.length + zs.length ≤ sizeLine ∧ Q .non (upd H l (.lst (xs ++ zs)))
theorem mt_extend : MtM X "list.extend" rExtend := by
  intro pins s σ H x vs v us Q I rx rv h
  obtain ⟨l, b, xs, zs, rfl, rfl, hH, hB, hz, q⟩ := h
  cases rx
  obtain ⟨u, rfl, ru⟩ := rv.one
  cases ru
  obtain ⟨z, its, n, r, hl, e⟩ := I.lstM hH
  obtain ⟨z2, its2, n2, r2, hl2, e2⟩ := I.lstM hB
  have hsz : its.toArray.size + its2.toArray.size ≤ sizeLine := by rw [List.size_toArray, List.size_toArray]; omega
  have hlong : ¬ (!its.toArray.isEmpty && Builtin.List.listTooLong (its.toArray.size + its2.toArray.size)) = true := by
    rw [notLongL hsz, Bool.and_false]
    exact Bool.false_ne_true
  refine call_meets F.slot_list_extend ⟨_, e, rfl⟩ F.entry_list_extend (F.args_list_extend_2 _ _)
    (AutoSeq1.list_extend_list_list_0 l its.toArray n b its2.toArray n2 hlong (by rw [List.size_toArray]; omega) (by omega)) ⟨e, e2, ?_⟩
  refine ⟨.non, _, I.lset (its' := its ++ its2) hH e (by simp) (r.append r2) ?_, rfl, q⟩
  rw [List.length_append]
  omega

def rPop : V → List V → Hp → VK → Prop := fun x vs H Q => ∃ l xs y, x = .ref l ∧ vs = [] ∧ H l = some (.lst xs) ∧ xs[xs.length - 1]? = some y ∧ Q y (upd H l (.lst xs.dropLast))
theorem mt_pop : MtM X "list.pop" rPop := by
  intro pins s σ H x vs v us Q I rx rv h
  obtain ⟨l, xs, y, rfl, rfl, hH, hy, q⟩ := h
  cases rx
  have hus := rv.zero
  subst hus
  obtain ⟨z, its, n, r, hl, e⟩ := I.lstM hH
  obtain ⟨u, hu, ru⟩ := r.get hy
  have hy' : its.toArray[its.toArray.size - 1]? = some u := by
    show its.toArray[its.length - 1]? = some u
    rw [← Array.getElem?_toList, ← hl]
    exact hu
  refine call_meets F.slot_list_pop ⟨_, e, rfl⟩ F.entry_list_pop (F.args_list_pop_1 _) (MeetsSeq.list_pop_last l its.toArray n u hy' (by rw [List.size_toArray]; omega)) ⟨e, ?_⟩
  refine ⟨y, _, I.lset (its' := its.dropLast) hH e ?_ r.dropLast ?_, ru, q⟩
  · show its.toArray.eraseIdxIfInBounds (its.toArray.size - 1) = its.dropLast.toArray
    rw [List.size_toArray, List.eraseIdxIfInBounds_toArray, erase_last]
  · rw [List.length_dropLast]
    omega

def rPopAt : V → List V → Hp → VK → Prop := fun x vs H Q => ∃ l xs i k y, x = .ref l ∧ vs = [.int i] ∧ H l = some (.lst xs) ∧ -(2 ^ 63) ≤ i ∧ i < 2 ^ 63 ∧ seqIndex? i xs.length = some k ∧ xs[k]? = some y ∧ Q y (upd H l (.lst (xs.eraseIdx k)))
theorem mt_popAt : MtM X "list.pop" rPopAt := by
  intro pins s σ H x vs v us Q I rx rv h
  obtain ⟨l, xs, i, k, y, rfl, rfl, hH, h1, h2, hk, hy, q⟩ := h
  cases rx
  obtain ⟨u, rfl, ru⟩ := rv.one
  obtain ⟨t, rfl⟩ := ru
  obtain ⟨z, its, n, r, hl, e⟩ := I.lstM hH
  obtain ⟨w, hw, rw'⟩ := r.get hy
  refine call_meets F.slot_list_pop ⟨_, e, rfl⟩ F.entry_list_pop (F.args_list_pop_2 _ _)
    (MeetsSeq.list_pop_at l its.toArray n i t k w (fitsIndex_both h1 h2) (by rw [List.size_toArray, ← hl]; exact hk) (by rw [← Array.getElem?_toList]; exact hw) (by rw [List.size_toArray]; omega)) ⟨e, ?_⟩
  refine ⟨y, _, I.lset (its' := its.eraseIdx k) hH e ?_ (r.eraseIdx k) ?_, rw', q⟩
  · show its.toArray.eraseIdxIfInBounds k = (its.eraseIdx k).toArray
    rw [List.eraseIdxIfInBounds_toArray]
  · have := len_erase xs k
    omega

def rReverse : V → List V → Hp → VK → Prop := fun x vs H Q => ∃ l xs, x = .ref l ∧ vs = [] ∧ H l = some (.lst xs) ∧ Q .non (upd H l (.lst xs.reverse))
theorem mt_reverse : MtM X "list.reverse" rReverse := by
  intro pins s σ H x vs v us Q I rx rv h
  obtain ⟨l, xs, rfl, rfl, hH, q⟩ := h
  cases rx
  have hus := rv.zero
  subst hus
  obtain ⟨z, its, n, r, hl, e⟩ := I.lstM hH
  refine call_meets F.slot_list_reverse ⟨_, e, rfl⟩ F.entry_list_reverse (F.args_list_reverse_1 _) (AutoSeq1.list_reverse_list_0 l its.toArray n (by rw [List.size_toArray]; omega)) ⟨e, ?_⟩
  refine ⟨.non, _, I.lset (its' := its.reverse) hH e (by simp) r.reverse ?_, rfl, q⟩
  rw [List.length_reverse]
  omega

def rClear : V → List V → Hp → VK → Prop := fun x vs H Q => ∃ l xs, x = .ref l ∧ vs = [] ∧ H l = some (.lst xs) ∧ Q .non (upd H l (.lst []))
theorem mt_clear : MtM X "list.clear" rClear := by
  intro pins s σ H x vs v us Q I rx rv h
  obtain ⟨l, xs, rfl, rfl, hH, q⟩ := h
  cases rx
  have hus := rv.zero
  subst hus
  obtain ⟨z, its, n, r, hl, e⟩ := I.lstM hH
  refine call_meets F.slot_list_clear ⟨_, e, rfl⟩ F.entry_list_clear (F.args_list_clear_1 _) (AutoSeq1.list_clear_list_0 l its.toArray n (by rw [List.size_toArray]; omega)) ⟨e, ?_⟩
  exact ⟨.non, _, I.lset (its' := []) (ys := []) hH e rfl .nil (Nat.zero_le _), rfl, q⟩

/-! ### list + list, list += list, list * int -/
def rCat : R2 := fun x y H Q => ∃ l b xs zs, x = .ref l ∧ y = .ref b ∧ H l = some (.lst xs) ∧ H b = some (.lst zs) ∧ xs.length + zs.length ≤ sizeLine ∧ ∀ p, H p = none → Q (.ref p) (upd H p (.lst (xs ++ zs)))
theorem op_cat : OpR X (binaryOp .Add) rCat := by
  intro pins s σ H x y v u Q I rx ry h
  obtain ⟨l, b, xs, zs, rfl, rfl, hH, hB, hz, q⟩ := h
  cases rx
  cases ry
  obtain ⟨z, its, n, r, hl, e⟩ := I.lstM hH
  obtain ⟨z2, its2, n2, r2, hl2, e2⟩ := I.lstM hB
  refine PySem.P.add_list e e2 ?_ (by rw [List.size_toArray, List.size_toArray]; omega)
  have ea : its.toArray ++ its2.toArray = (its ++ its2).toArray := by simp
  rw [ea]
  exact ⟨.ref _, _, I.lnew (t' := s.toks) (r.append r2) (by rw [List.length_append]; omega), rfl, q _ I.fresh⟩
/-- a list times an int (a negative one is nothing) -/
def rRep : R2 := fun x y H Q => ∃ l k xs, x = .ref l ∧ y = .int k ∧ H l = some (.lst xs) ∧ -(2 ^ 63) ≤ k ∧ k < 2 ^ 63 ∧ xs.length * k.toNat ≤ sizeLine ∧
  ∀ p, H p = none → Q (.ref p) (upd H p (.lst (List.replicate k.toNat xs).flatten))
theorem len_rep {α : Type} (xs : List α) (k : Nat) : (List.replicate k xs).flatten.length = k * xs.length := by
  induction k with
  | zero => simp
  | succ k ih => rw [List.replicate_succ, List.flatten_cons, List.length_append, ih, Nat.succ_mul, Nat.add_comm]
theorem op_rep : OpR X (binaryOp .Mult) rRep := by
  intro pins s σ H x y v u Q I rx ry h
  obtain ⟨l, k, xs, rfl, rfl, hH, h1, h2, hz, q⟩ := h
  cases rx
  obtain ⟨t, rfl⟩ := ry
  obtain ⟨z, its, n, r, hl, e⟩ := I.lstM hH
  have hlen : its.toArray.size * k.toNat ≤ sizeLine := by rw [List.size_toArray, ← hl]; exact hz
  have hcap : ¬ its.toArray.size * k.toNat > (2 ^ 63 - 1) / 8 := by
    have : (sizeLine : Nat) ≤ (2 ^ 63 - 1) / 8 := by decide
    omega
  have hfit : ¬ (!Builtin.List.listFitsIndex k) = true := by
    rw [fitsIndex_both h1 h2]
    exact Bool.false_ne_true
  have hlong : ¬ Builtin.List.listTooLong (its.toArray.size * k.toNat) = true := by
    rw [notLongL hlen]
    exact Bool.false_ne_true
  have hnew : List.foldl (fun x1 x2 => x1 ++ x2) #[] (List.replicate (if its.toArray.isEmpty = true then 0 else k.toNat) its.toArray) = (List.replicate k.toNat its).flatten.toArray := by
    have f0 : ∀ m : Nat, List.foldl (fun x1 x2 => x1 ++ x2) #[] (List.replicate m its.toArray) = (List.replicate m its).flatten.toArray := fun m => by
      have := foldl_rep its m []
      rw [List.nil_append] at this
      exact this
    rw [f0]
    cases its with
    | nil => simp
    | cons a r' => rw [if_neg (by simp)]
  refine wpAny_binaryOp_repeat_ref (T := "list") (U := "int") (by decide) ⟨_, e, rfl⟩ (fun s' => typeIs_int s' k t) noFill_list_mul F.fills_int_mul F.slot_int_rmul repeat_list F.slot_int_index.lookup
    (call_meets F.slot_int_rmul (typeIs_int s k t) F.entry_int_rmul (F.args_int_rmul_2 _ _) (int___rmul___int_list k t l its.toArray n)
      ⟨e, rfl, ⟨_, e, rfl⟩, call_meets F.slot_list_mul ⟨_, e, rfl⟩ F.entry_list_mul (F.args_list_mul_2 _ _) (AutoListH.list___mul___list_int_3 l its.toArray n k t hfit hcap hlong) ⟨e, ?_⟩⟩)
  rw [hnew]
  exact ⟨.ref _, _, I.lnew (t' := s.toks) (r.rep k.toNat) (by rw [len_rep, Nat.mul_comm]; exact hz), rfl, q _ I.fresh⟩

/-! ### del xs[i] -/
theorem del_list {pins : List (Addr × Obj)} {s : Shared} {σ : St} {H : Hp} {l : Addr} {xs : List V} {i : Int} {t : Tok} {k : Nat} {Q : Unit → Shared → Prop} (I : Inv X pins σ H s) (hH : H l = some (.lst xs))
    (h1 : -(2 ^ 63) ≤ i) (h2 : i < 2 ^ 63) (hk : seqIndex? i xs.length = some k) (h : ∀ s', Inv X pins σ (upd H l (.lst (xs.eraseIdx k))) s' → Q () s') :
    wpAny (model X.prog X.w) X.A (delItem (.ref l) (.int i t)) Q X.xe s := by
  obtain ⟨z, its, n, r, hl, e⟩ := I.lstM hH
  refine PySem.P.delItem_list (k := k) e (fitsIndex_both h1 h2) (by rw [List.size_toArray, ← hl]; exact hk) (h _ ?_) (by rw [List.size_toArray]; omega)
  refine I.lset (its' := its.eraseIdx k) (t' := s.toks) hH e ?_ (r.eraseIdx k) ?_
  · show its.toArray.eraseIdxIfInBounds k = (its.eraseIdx k).toArray
    rw [List.eraseIdxIfInBounds_toArray]
  · have := len_erase xs k
    omega
end

/-! ### xs[a:b] = ys -/
section
variable {prog : Program} {w : World} {A : Around} {E : Value → Shared → Prop} {s : Shared}
theorem splice_eq (its its2 : List Value) (a c : Nat) : its.toArray.extract 0 a ++ its2.toArray ++ its.toArray.extract c its.toArray.size = (its.take a ++ its2 ++ its.drop c).toArray := by
  apply Array.toList_inj.mp
  first
    | (simp
       exact List.take_of_length_le (by simp))
    | simp [List.take_of_length_le]
    | simp
theorem bounds_run {a c n : Nat} (hac : a ≤ c) (hc : c ≤ n) : sliceBounds (some (a : Int)) (some (c : Int)) none n = ((a : Int), (c : Int), 1) := by
  simp only [sliceBounds, Option.getD_none]
  have h1 : ¬ ((a : Int) < 0) := by omega
  have h2 : ¬ ((c : Int) < 0) := by omega
  simp only [h1, h2, if_false, show (1 : Int) > 0 by decide, if_true]
  congr 1
  · omega
  · congr 1; omega
set_option maxRecDepth 100000 in
/-- list.__setitem__ with a slice of step one and another list -/
theorem setItem_slice {l b sl : Addr} {items new : Array Value} {n n2 : Nat} {vl vu : Value} {a c : Nat} {Q : Unit → Shared → Prop}
    (e : s.heap.get? l = some { cls := .type "list", data := .seq items n }) (e2 : s.heap.get? b = some { cls := .type "list", data := .seq new n2 }) (hne : l ≠ b)
    (hs : s.heap.IsSliceOf sl vl vu .none) (pl : IsPart vl (some (a : Int))) (pu : IsPart vu (some (c : Int))) (hac : a ≤ c) (hc : c ≤ items.size)
    (hsz : items.size + new.size ≤ sizeLine) (h : Q () { s with heap := s.heap.update l (Obj.mapSeq fun xs => xs.extract 0 a ++ new ++ xs.extract c xs.size) }) :
    wpAny (model prog w) A (setItem (.ref l) (.ref sl) (.ref b)) Q E s := by
  have hl : s.heap.IsList l items := PySem.IsL.isList e
  have hb : s.heap.IsList b new := PySem.IsL.isList e2
  obtain ⟨os, hos, hcs, hds⟩ := id hs
  have hTs : s.TypeIs (.ref sl) "slice" := ⟨os, hos, hcs⟩
  have hstep : ¬ ((rawPart none == rawInt 0) = true) := Bool.false_ne_true
  have hsame : Builtin.List.listSameRef (.ref l) (.ref b) = false := by
    unfold Builtin.List.listSameRef
    exact beq_eq_false_iff_ne.mpr hne
  have hmax : (max (a : Int) (c : Int)).toNat = c := by omega
  have hz' : ((fun xs : Array Value => xs.extract 0 a ++ new ++ xs.extract c xs.size) items).size ≤ sizeLine + 1 := by
    simp only [Array.size_append, Array.size_extract]
    omega
  unfold setItem
  try with_reducible refine wpAny_holding ?_
  first | refine wpAny_bind (wpAny_pure ?_) | skip
  refine wpAny_bind (wpAny_sequenceKey hl.typeIs (by decide) ?_)
  refine wpAny_bind (wpAny_callSpecial?_slot (name := Str.ofString "__setitem__") hl.typeIs slot_list_setitem
    (wpAny_call_entry slot_list_setitem hl.typeIs entry_list_setitem ?_ (args_list_setitem _ _ _)))
  show wpAny _ _ (Builtin.List.listSubscript? (.ref sl) >>= _) _ _ s
  refine wpAny_bind ?_
  unfold Builtin.List.listSubscript?
  refine wpAny_bind (wpAny_specialOf hTs slice_no_index ?_)
  simp only [Option.isNone_none, if_true]
  refine wpAny_pure ?_
  show wpAny _ _ (typeOf (.ref sl) >>= _) _ _ s
  refine wpAny_bind (wpAny_typeOf hTs ?_)
  first
    | rw [if_neg (by decide)]
    | refine PySem.W.KFB.if_not (by decide) ?_
  rw [listSliceParts_eq]
  refine wpAny_bind (wpAny_bind (wpAny_field hos hds (x := .none) rfl (wpAny_bind (wpAny_listPart .none ?_))))
  rw [if_neg hstep]
  refine wpAny_bind (wpAny_field hos hds (x := vl) rfl (wpAny_bind (wpAny_listPart pl ?_)))
  refine wpAny_bind (wpAny_field hos hds (x := vu) rfl (wpAny_bind (wpAny_listPart pu (wpAny_pure ?_))))
  first
    | simp only [hsame, Bool.false_eq_true, if_false]
    | refine PySem.W.KFB.if_not hsame ?_
    | (dsimp only
       rw [if_neg (by rw [hsame]; exact Bool.false_ne_true)])
  refine wpAny_bind (m := Builtin.List.listAllItems (.ref b) "must assign iterable to extended slice") ?_
  unfold Builtin.List.listAllItems
  refine wpAny_bind (wpAny_typeOf hb.typeIs ?_)
  first
    | refine PySem.W.KFB.if_so (by decide) ?_
    | rw [if_pos (by decide)]
    | simp only [beq_self_eq_true, Bool.true_or, if_true]
  unfold Builtin.List.listItems
  refine wpAny_bind (wpAny_seqItems e2 rfl (wpAny_pure ?_))
  refine wpAny_bind (wpAny_bind (wpAny_seqItems e rfl (wpAny_pure ?_)))
  refine wpAny_bind (wpAny_of_eq ((sliceIndices_raw (some (a : Int)) (some (c : Int)) none items.size (by simp)).trans (congrArg (pure : Int × Int × Int → Sem (Int × Int × Int)) (bounds_run hac hc))) ?_)
  show wpAny _ _ (if ((1 : Int) == 1) = true then _ else _) _ _ s
  rw [if_pos (by decide)]
  refine wpAny_bind (wpAny_rule ?_)
  first
    | simp only [notLongL hsz, Bool.false_eq_true, if_false]
    | refine PySem.W.KFB.if_not (notLongL hsz) ?_
  first | refine wpAny_bind (wpAny_pure ?_) | skip
  show wpAny _ _ (updateSeq l (fun xs => xs.extract 0 ((a : Int)).toNat ++ new ++ xs.extract (max (a : Int) (c : Int)).toNat xs.size) >>= _) _ _ s
  rw [hmax, Int.toNat_natCast]
  refine wpAny_bind (wpAny_updateSeq (hz := Nat.le_trans (Nat.le_add_right _ _) hsz) (_hz' := hz') e rfl ?_)
  refine wpAny_bind (wpAny_letGo ?_)
  first
    | exact wpAny_bind (wpAny_pure (wpAny_pure ⟨.none, rfl, wpAny_pure h⟩))
    | exact wpAny_pure ⟨.none, rfl, wpAny_pure h⟩
end

section
variable {X : Cx}
/-- xs[a:c] = ys of another list, at the value level: sl is the slice object that was just made -/
theorem set_slice {pins : List (Addr × Obj)} {s : Shared} {σ : St} {H : Hp} {l b sl : Addr} {xs ys : List V} {a c : Int} {vl vu : Value} {Q : Unit → Shared → Prop} (I : Inv X pins σ H s)
    (hH : H l = some (.lst xs)) (hB : H b = some (.lst ys)) (hne : l ≠ b) (hs : s.heap.IsSliceOf sl vl vu .none) (ra : RelV (.int a) vl) (rc : RelV (.int c) vu) (h0 : 0 ≤ a) (hac : a ≤ c) (hc : c ≤ xs.length)
    (hz : xs.length + ys.length ≤ sizeLine) (h : ∀ s', Inv X pins σ (upd H l (.lst (xs.take a.toNat ++ ys ++ xs.drop c.toNat))) s' → Q () s') :
    wpAny (model X.prog X.w) X.A (setItem (.ref l) (.ref sl) (.ref b)) Q X.xe s := by
  obtain ⟨ta, rfl⟩ := ra
  obtain ⟨tc, rfl⟩ := rc
  obtain ⟨z, its, n, r, hl, e⟩ := I.lstM hH
  obtain ⟨z2, its2, n2, r2, hl2, e2⟩ := I.lstM hB
  obtain ⟨a', rfl⟩ := Int.eq_ofNat_of_zero_le h0
  obtain ⟨c', rfl⟩ := Int.eq_ofNat_of_zero_le (Int.le_trans h0 hac)
  simp only [Int.toNat_natCast] at h
  refine setItem_slice (a := a') (c := c') e e2 hne hs (.int _ _) (.int _ _) (by omega) (by rw [List.size_toArray]; omega) (by rw [List.size_toArray, List.size_toArray]; omega) (h _ ?_)
  refine I.lset (its' := its.take a' ++ its2 ++ its.drop c') (t' := s.toks) hH e ?_ (Vals.append (Vals.append (r.take _) r2) (r.drop _)) ?_
  · exact splice_eq its its2 a' c'
  · rw [List.length_append, List.length_append, List.length_take, List.length_drop]
    omega
end
end L2

namespace Att
open PySem PySem.W PySem.Calls PyProof.Rows

/-! ### the script -/
theorem ints_of_wellAll {P : Params} {h : Heap} : ∀ (ns : List Int) (vs : List Value), WellAll P h vs (ns.map WData.int) → IntsAre vs ns := by
  intro ns
  induction ns with
  | nil =>
    intro vs w
    rw [List.map_nil] at w
    cases w
    exact .nil
  | cons n ns ih =>
    intro vs w
    rw [List.map_cons] at w
    cases w with
    | cons a b =>
      cases a
      exact .cons _ _ (ih _ b)

theorem script_of {l : OpenLaw} {n : Nat} (hn : l.most = some n) {P : Params} {h : Heap} {args : List WData} {vals : List Value}
    (hpre : l.row.toRowW.claim.pre args = true) (hwl : WellAll P h vals args) :
    ∃ a vs ns, vals = [Value.ref a] ∧ args = [WData.list (ns.map WData.int)] ∧ h.get? a = some { cls := .type "list", data := .seq vs.toArray } ∧ IntsAre vs ns ∧ ns.length ≤ n := by
  have hsh : WShape.hasAll [] args [.list .int] = true := (pre_splitW hpre).1
  have hc : l.pre.holds [] { args := args } = true := (pre_splitW hpre).2
  obtain ⟨d, r, rfl, h1, h2⟩ := hasAllW_cons hsh
  obtain rfl := hasAllW_nil h2
  obtain ⟨xs, rfl, h3⟩ := hasW_list h1
  obtain ⟨ns, rfl⟩ := items_int h3
  have hlen : ns.length ≤ n := by
    unfold OpenLaw.pre at hc
    have h4 : (WTm.not (.lt (.lit (.int (n : Int))) (.len (.arg 0)))).holds [] { args := [.list (ns.map .int)] } = true := by
      have h4 := (holds_andW hc).1
      rw [hn] at h4
      exact h4
    have h5 := condW_of h4 (w_not (w_lt w_lit (w_len_list (w_arg rfl))))
    rw [List.length_map] at h5
    refine Nat.le_of_not_lt fun q => ?_
    have q' : (n : Int) < ((ns.length : Nat) : Int) := by omega
    first
      | (rw [decide_eq_true q'] at h5; exact absurd h5 (by decide))
      | (simp at h5; omega)
  cases hwl with
  | cons w1 w2 =>
    cases w2
    cases w1 with
    | list ho hall => exact ⟨_, _, ns, rfl, rfl, ho, ints_of_wellAll ns _ hall, hlen⟩

theorem post_true (l : OpenLaw) (args : List WData) : l.row.toRowW.claim.post args (.bool true) args = true :=
  postW_of (r := l.row.toRowW) (X := (true == true))
    (show WShape.has [] (.bool true) .bool = true by first | rfl | decide | simp [WShape.has, WShape.arms, WShape.armsAll])
    (show (WTm.eq .res (.lit (.bool true))).value [] { args := args, res := some (.bool true), after := args } = some (.bool (true == true)) from w_eq_bool (w_res rfl) w_lit) rfl

/-! ### the attachment: holds_open's last premise (the goal 'hc' behind k_head) from a wpAny of the law's body -/
theorem attach {l : OpenLaw} {n : Nat} {q : Program} {loose : List Str} {XP : (Str → Option Value) → Heap → Prop} {YP : World → Heap → Prop} {d : DefRec} {x : Str}
    (hn : l.most = some n) (hdf : d.params.defaults = [])
    (hbind : ∀ pm cd doc v : Value, bindArgs (docDef d.name d.params d.body d.scope pm cd doc) ⟨[v], []⟩ = pure [(x, v)])
    (hx : d.scope.names.lookup x = some .local ∨ d.scope.names.lookup x = some .cell)
    (hk : d.scope.kind = .function) (hco : d.scope.isCoroutine = false) (hgen : d.scope.isGenerator = false)
    (body : ∀ (w : World) (s₀ s₁ s : Shared) (mg mb : Str → Option Value) (fa : Addr) (o : Obj) (pm cd doc : Value) (a : Addr) (vs : List Value) (ns : List Int),
      Ground q loose [] XP w s₀ mg mb s₁.heap → YP w s₁.heap →
      s₁.heap.get? fa = some o → o.data = .func (docDef d.name d.params d.body d.scope pm cd doc) → s₁.heap.CodeRec cd d.name → mg d.name = some (.ref fa) →
      s₁.heap.get? a = some { cls := .type "list", data := .seq vs.toArray } → IntsAre vs ns → ns.length ≤ n →
      s.gens = #[] → s.os = s₁.os →
      Fr s₁.heap s₁.heap.objs.size s.heap (bindL (envOfC d.name d.scope s₁.heap.objs.size fa cd).kindOf [(x, .ref a)] fun _ => none) →
      Cl s₁.heap.objs.size (cellsFrom (s₁.heap.objs.size + 1) d.scope.names []) s.heap (bindC (envOfC d.name d.scope s₁.heap.objs.size fa cd).kindOf [(x, .ref a)] fun _ => none) →
      wpAny (model l.prog w) (callerA.deeper (envOfC d.name d.scope s₁.heap.objs.size fa cd)) (execs d.body (envOfC d.name d.scope s₁.heap.objs.size fa cd))
        (fun f s' => f = .ret (.bool true) ∧ OldK s₁.heap s'.heap ∧ s'.os = s₁.os ∧ AllBare s'.gens) (fun _ _ => False) s) :
    WalkO q loose XP YP l.row.toRowW d [] (fun f vs => PySem.call f vs) := by
  intro w s₀ s₁ mg mb G Y fa o pm cd doc dV kV ho hd hcd hD hmg hg args vals as hpre hlay hrd hwl hlo
  obtain rfl : dV = .none := Dflts.none hD hdf
  obtain rfl : kV = .none := Dflts.noKw hD
  obtain ⟨a, vs, ns, rfl, rfl, hobj, hints, hlen⟩ := script_of hn hpre hwl
  refine enter_call ?_
  refine call_cells_ret (o := o) (by rw [depth_caller]; decide) ho (fd_plain hd) G.T.nolimit hcd (hbind pm cd doc (.ref a)) (fun y hy => ?_) (fun h₁ tk F X => ?_) hco hgen hk
  · obtain rfl : y = (x, Value.ref a) := List.mem_singleton.mp hy
    rcases hx with e | e
    · exact .inl e
    · exact .inr ⟨e, cellsFrom_some _ _ _ (.inl e)⟩
  · refine wpAny_mono (body w s₀ s₁ { s₁ with heap := h₁, toks := tk } mg mb fa o pm cd doc a vs ns G Y ho (fd_plain hd) hcd hmg hobj hints hlen hg rfl F X) (fun f s' hq => ?_) (fun _ _ hq => hq)
    obtain ⟨rfl, h2, h3, h4⟩ := hq
    exact ⟨.inl ⟨.bool true, .bool true, [], rfl, fun _ => rfl, .bool true, post_true l _, fun _ => ⟨List.Pairwise.nil, fun _ hm => (nomatch hm)⟩⟩, h2, h3, h4⟩

/-- the same from a codeAny of the CALL (for a layer whose function contracts speak of calls) -/
theorem attach_call {l : OpenLaw} {n : Nat} {q : Program} {loose : List Str} {XP : (Str → Option Value) → Heap → Prop} {YP : World → Heap → Prop} {d : DefRec}
    (hn : l.most = some n) (hdf : d.params.defaults = [])
    (call : ∀ (w : World) (s₀ s₁ : Shared) (mg mb : Str → Option Value) (fa : Addr) (o : Obj) (pm cd doc : Value) (a : Addr) (vs : List Value) (ns : List Int),
      Ground q loose [] XP w s₀ mg mb s₁.heap → YP w s₁.heap →
      s₁.heap.get? fa = some o → o.data = .func (docDef d.name d.params d.body d.scope pm cd doc) → s₁.heap.CodeRec cd d.name → mg d.name = some (.ref fa) →
      s₁.heap.get? a = some { cls := .type "list", data := .seq vs.toArray } → IntsAre vs ns → ns.length ≤ n → s₁.gens = #[] →
      codeAny (model l.prog w) callerA (.call (.ref fa) ⟨[.ref a], []⟩) (fun r s' => r = .ok (.ret (.bool true)) ∧ OldK s₁.heap s'.heap ∧ s'.os = s₁.os ∧ AllBare s'.gens) s₁) :
    WalkO q loose XP YP l.row.toRowW d [] (fun f vs => PySem.call f vs) := by
  intro w s₀ s₁ mg mb G Y fa o pm cd doc dV kV ho hd hcd hD hmg hg args vals as hpre hlay hrd hwl hlo
  obtain rfl : dV = .none := Dflts.none hD hdf
  obtain rfl : kV = .none := Dflts.noKw hD
  obtain ⟨a, vs, ns, rfl, rfl, hobj, hints, hlen⟩ := script_of hn hpre hwl
  refine enter_call (codeAny_mono (call w s₀ s₁ mg mb fa o pm cd doc a vs ns G Y ho (fd_plain hd) hcd hmg hobj hints hlen hg) fun r s' hq => ?_)
  obtain ⟨rfl, h2, h3, h4⟩ := hq
  exact ⟨.inl ⟨.bool true, .bool true, [], rfl, fun _ => rfl, .bool true, post_true l _, fun _ => ⟨List.Pairwise.nil, fun _ hm => (nomatch hm)⟩⟩, h2, h3, h4⟩

/-- the same where the top left finished generators (o_head chose holds_openN): nothing may have changed at all and no generator may be left -/
theorem attachN {l : OpenLaw} {n : Nat} {q : Program} {loose : List Str} {XP : (Str → Option Value) → Heap → Prop} {YP : World → Heap → Prop} {d : DefRec} {x : Str}
    (hn : l.most = some n) (hdf : d.params.defaults = [])
    (hbind : ∀ pm cd doc v : Value, bindArgs (docDef d.name d.params d.body d.scope pm cd doc) ⟨[v], []⟩ = pure [(x, v)])
    (hx : d.scope.names.lookup x = some .local ∨ d.scope.names.lookup x = some .cell)
    (hk : d.scope.kind = .function) (hco : d.scope.isCoroutine = false) (hgen : d.scope.isGenerator = false)
    (body : ∀ (w : World) (s₀ s₁ s : Shared) (mg mb : Str → Option Value) (fa : Addr) (o : Obj) (pm cd doc : Value) (a : Addr) (vs : List Value) (ns : List Int),
      Ground q loose [] XP w s₀ mg mb s₁.heap → YP w s₁.heap →
      s₁.heap.get? fa = some o → o.data = .func (docDef d.name d.params d.body d.scope pm cd doc) → s₁.heap.CodeRec cd d.name → mg d.name = some (.ref fa) →
      s₁.heap.get? a = some { cls := .type "list", data := .seq vs.toArray } → IntsAre vs ns → ns.length ≤ n →
      s.gens = #[] → s.os = s₁.os →
      Fr s₁.heap s₁.heap.objs.size s.heap (bindL (envOfC d.name d.scope s₁.heap.objs.size fa cd).kindOf [(x, .ref a)] fun _ => none) →
      Cl s₁.heap.objs.size (cellsFrom (s₁.heap.objs.size + 1) d.scope.names []) s.heap (bindC (envOfC d.name d.scope s₁.heap.objs.size fa cd).kindOf [(x, .ref a)] fun _ => none) →
      wpAny (model l.prog w) (callerA.deeper (envOfC d.name d.scope s₁.heap.objs.size fa cd)) (execs d.body (envOfC d.name d.scope s₁.heap.objs.size fa cd))
        (fun f s' => f = .ret (.bool true) ∧ (∀ b o, s₁.heap.get? b = some o → s'.heap.get? b = some o) ∧ s'.os = s₁.os ∧ s'.gens = #[]) (fun _ _ => False) s) :
    WalkN q loose XP YP l.row.toRowW d [] (fun f vs => PySem.call f vs) := by
  intro w s₀ s₁ mg mb G Y fa o pm cd doc dV kV ho hd hcd hD hmg hg args vals as hpre hlay hrd hwl hlo
  obtain rfl : dV = .none := Dflts.none hD hdf
  obtain rfl : kV = .none := Dflts.noKw hD
  obtain ⟨a, vs, ns, rfl, rfl, hobj, hints, hlen⟩ := script_of hn hpre hwl
  refine enter_callW ?_
  refine call_cells_ret (o := o) (by rw [depth_caller]; decide) ho (fd_plain hd) G.T.nolimit hcd (hbind pm cd doc (.ref a)) (fun y hy => ?_) (fun h₁ tk F X => ?_) hco hgen hk
  · obtain rfl : y = (x, Value.ref a) := List.mem_singleton.mp hy
    rcases hx with e | e
    · exact .inl e
    · exact .inr ⟨e, cellsFrom_some _ _ _ (.inl e)⟩
  · refine wpAny_mono (body w s₀ s₁ { s₁ with heap := h₁, toks := tk } mg mb fa o pm cd doc a vs ns G Y ho (fd_plain hd) hcd hmg hobj hints hlen hg rfl F X) (fun f s' hq => ?_) (fun _ _ hq => hq)
    obtain ⟨rfl, h2, h3, h4⟩ := hq
    exact ⟨.inl ⟨.bool true, .bool true, [], rfl, fun _ => rfl, .bool true, post_true l _, fun _ => ⟨List.Pairwise.nil, fun _ hm => (nomatch hm)⟩⟩, h2, h3, h4⟩

/-! ### rules over ANY heap (no ledger) from facts about the written part K: the library's own take a ledger (News) for what they write -/
section
variable {prog : Program} {w : World} {A : Around} {E : Value → Shared → Prop} {s : Shared} {K : Frag}

/-- a def of the module, or a method (qual 'C.m'), entered: the frame is the next address; cells behind it -/
theorem call_fn {R : Result → Shared → Prop} {name qual : Str} {params : Arguments} {body : List Stmt} {scope : Scope} {dV kV doc pm cdv ct oc : Value} {an od : Option Addr} {osl : Array (Option Value)} {f : Addr} {args : Args} {binds : List (Str × Value)}
    (X : K.In s.heap) (hlim : s.heap.NoLimit) (ho : K.lookup f = some ⟨oc, od, .func (fnOf name qual params body scope dV kV doc pm an cdv ct), osl⟩) (hcd : codeIn K cdv qual = true) (hroom : A.depth < recursionLimit)
    (hbind : BindsTo s (fnOf name qual params body scope dV kV doc pm an cdv ct) args binds)
    (hkind : (binds.all fun y => scope.names.lookup y.1 == some .local || scope.names.lookup y.1 == some .cell) = true)
    (h : ∀ s₁, InCallC s s.heap.objs.size (bindL (envOfC qual scope s.heap.objs.size f cdv).kindOf binds fun _ => none) (cellsFrom (s.heap.objs.size + 1) scope.names [])
        (bindC (envOfC qual scope s.heap.objs.size f cdv).kindOf binds fun _ => none) s₁ →
      wpAny (model prog w) (A.deeper (envOfC qual scope s.heap.objs.size f cdv)) (execs body (envOfC qual scope s.heap.objs.size f cdv))
        (fun fl s' => R (.ok (.ret (match fl with | .ret v => v | _ => .none))) s')
        (fun e s' => wpAny (model prog w) (A.deeper (envOfC qual scope s.heap.objs.size f cdv)) (leaving (envOfC qual scope s.heap.objs.size f cdv) e) (fun _ s'' => R (.error e) s'') (fun e' s'' => R (.error e') s'') s') s₁)
    (hco : scope.isCoroutine = false) (hgen : scope.isGenerator = false) (hk : scope.kind = .function) : codeAny (model prog w) A (.call (.ref f) args) R s := by
  refine codeAny_call_function hroom (X _ _ ho) rfl hco hgen rfl (codeRec_of X hcd) (hbind _ _ _ _ ?_)
  refine wpAny_newFunctionEnv_cells hk (kindsX hkind _) fun env he s₁ x => ?_
  subst he
  exact ⟨hlim.keeps x.toInCall.keep, codeAny_func (h s₁ x)⟩

/-- C(..): dict at size, instance at size + 1, then __init__ -/
theorem make_obj {R : Result → Shared → Prop} {C fI : Addr} {rest : List Value} {kw : List (Str × Value)}
    (X : K.In s.heap) (hm : makesIn K C = true) (hi : findIn K (.ref C) "__init__" = some (some (.ref fI))) (hf : isFn K (.ref fI) = true)
    (h : codeAny (model prog w) (A.under (.builtin "type.__call__" ⟨.ref C :: rest, kw⟩)) (.call (.ref fI) ⟨.ref (s.heap.objs.size + 1) :: rest, kw⟩) (InitBack (s.heap.objs.size + 1) R)
      { s with heap := (s.heap.push emptyDict).push (instObj C s.heap.objs.size) }) : codeAny (model prog w) A (.call (.ref C) ⟨rest, kw⟩) R s := by
  obtain ⟨hh, g, d, t, os⟩ := s
  exact make_core (makes_of X hm) (looks_findIn X hi) (fun self => bind_fn X self (beq_iff_eq.mp hf)) (.inl rfl) h

/-- x.name where the instance's dict holds the name and the class does not -/
theorem get_field {x C : Addr} {ox : Obj} {es : List DictEntry} {n : Nat} {name : Str} {expr : Bool} {v : Value} {Q : Value → Shared → Prop}
    (X : K.In s.heap) (I : PySem.W.InstAt s.heap x ox C (some (dictOf es n))) (hg : plainGet K C name = true) (hh : hasDictIn K C = true) (ha : findIn K (.ref C) name = some none)
    (hl : getL name es = some (some v)) (hv : handedIn v = true) (h : Q v { s with toks := s.toks + 1 }) : wpAny (model prog w) A (getAttr (.ref x) name expr) Q E s :=
  get_value X I (plainGet_of hg).1 (findObj_own hh ha rfl hl) hv h

/-- x.m(..): the method found in the class -/
theorem get_method {x C f : Addr} {ox : Obj} {es : List DictEntry} {n : Nat} {name : Str} {pl : Sem Bool} {Q : Value × List Value → Shared → Prop}
    (X : K.In s.heap) (I : PySem.W.InstAt s.heap x ox C (some (dictOf es n))) (hg : plainGet K C name = true) (hf : findIn K (.ref C) name = some (some (.ref f))) (ht : isFn K (.ref f) = true)
    (hl : getL name es = some none) (h : Q (.ref f, [.ref x]) s) : wpAny (model prog w) A (getMethod (.ref x) name pl) Q E s :=
  method_fn X I (plainGet_of hg).1 (plainGet_of hg).2 hf (beq_iff_eq.mp ht) (by show (lookIn name (dictOf es n)).map _ = _; rw [lookIn_dict, hl]; rfl) h

/-! the whole heap as the ledger: makes every rule that writes through a ledger a rule over any heap -/
def noObjs (h : Heap) : Heap := { h with objs := #[] }
theorem noObjs_get (h : Heap) (b : Addr) : (noObjs h).get? b = none := by
  cases e : (noObjs h).get? b with
  | none => rfl
  | some o => exact absurd (Heap.lt_size e) (Nat.not_lt_zero _)
def ledger (h : Heap) (L d : Addr) : List (Addr × Obj) := (List.range h.objs.size).filterMap fun a => if a = L ∨ a = d then none else (h.get? a).map fun o => (a, o)
theorem mem_ledger {h : Heap} {L d a : Addr} {o : Obj} : (a, o) ∈ ledger h L d ↔ a ≠ L ∧ a ≠ d ∧ h.get? a = some o := by
  unfold ledger
  rw [List.mem_filterMap]
  constructor
  · rintro ⟨b, _, e⟩
    split at e
    · cases e
    · rename_i hb
      obtain ⟨o', ho, e'⟩ := Option.map_eq_some_iff.mp e
      cases e'
      exact ⟨fun q => hb (.inl q), fun q => hb (.inr q), ho⟩
  · rintro ⟨n1, n2, ho⟩
    refine ⟨a, List.mem_range.mpr (Heap.lt_size ho), ?_⟩
    rw [if_neg (show ¬ (a = L ∨ a = d) from fun q => q.elim n1 n2), ho] <;> rfl
theorem news_ledger {h : Heap} {L d : Addr} {od : Obj} (hne : d ≠ L) (ho : h.get? d = some od) : News (noObjs h) L h ([] ++ (d, od) :: ledger h L d) := by
  rintro ⟨a, o⟩ hp
  rcases List.mem_cons.mp hp with e | hp
  · cases e
    exact ⟨ho, hne, noObjs_get _ _⟩
  · obtain ⟨n1, n2, e⟩ := mem_ledger.mp hp
    exact ⟨e, n1, noObjs_get _ _⟩
theorem fr_all {h : Heap} {L : Addr} {m : Str → Option Value} (n : h.Ns L m) : Fr (noObjs h) L h m :=
  ⟨n, fun b o e => (by rw [noObjs_get] at e; cases e), Nat.zero_le _⟩
/-- Upd of the head entry (for append_K, setItem_K ..) -/
theorem upd_ledger {h : Heap} {L d : Addr} {o o' : Obj} : Upd d o o' ((d, o) :: ledger h L d) ((d, o') :: ledger h L d) :=
  .head fun ⟨_, _⟩ hp => (mem_ledger.mp hp).2.1

/-- x.name = v over any heap: L is any namespace of the heap (the frame's, say): its map stays, its object is not told; all else but the dict stays -/
theorem set_field {x C dx L : Addr} {ox : Obj} {m : Str → Option Value} {es es' : List DictEntry} {n n' : Nat} {name : Str} {v : Value} {Q : Unit → Shared → Prop}
    (X : K.In s.heap) (I : PySem.W.InstAt s.heap x ox C (some (dictOf es n))) (hd : ox.dict = some dx) (hL : s.heap.Ns L m) (hne : dx ≠ L)
    (hs : findIn K (.ref C) "__setattr__" = some (some (.builtin "object.__setattr__"))) (hp : plainOver K C = true) (ht : takerIn K C name = some none) (hh : hasDictIn K C = true) (hl : (getL name es).isSome = true)
    (e : (putL name (PyData.keyHash w.params name) (.str name (s.toks + 1)) v es, putN name es n) = (es', n')) (hz : es'.length ≤ 1000)
    (h : ∀ h' : Heap, h'.Ns L m → h'.get? dx = some (dictOf es' n') → (∀ b o, b ≠ dx → b ≠ L → s.heap.get? b = some o → h'.get? b = some o) → Q () { s with heap := h', toks := s.toks + 2 }) :
    wpAny (model prog w) A (setAttr (.ref x) name v) Q E s := by
  obtain ⟨e1, e2⟩ := Prod.mk.inj e
  have hdx : s.heap.get? dx = some (dictOf es n) := by
    have := I.dict
    rw [hd] at this
    exact this
  refine set_plain X I hs (osa_dict (s := { s with toks := s.toks + 1 }) (h₀ := noObjs s.heap) (L := L) (m := m) (od := dictOf es n) (od' := dictOf es' n') (es := es') (n := n') (pre := []) (post := ledger s.heap L dx)
    (fr_all hL) (news_ledger hne hdx) X I hd hp ht hh hl (fun _ q => nomatch q) (fun ⟨_, _⟩ q => (mem_ledger.mp q).2.1) (by rw [putName_dict, e1, e2]) rfl hz fun h' F' N' => ?_)
  exact h h' F'.ns (N'.get (List.Mem.head _)) fun b o n1 n2 ho => N'.get (List.Mem.tail _ (mem_ledger.mpr ⟨n2, n1, ho⟩))
end
end Att

namespace L2
open PySem PySem.Spec PyProof.Rows

theorem vals_ints : ∀ {vs : List Value} {ns : List Int}, IntsAre vs ns → Vals (ns.map V.int) vs
  | _, _, .nil => .nil
  | _, _, .cons n t h => .cons ⟨t, rfl⟩ (vals_ints h)

/-- nothing is tracked but the script, known to the object (or it is an object of the module) -/
def Only (H : Hp) : Prop := ∀ b, H b = none ∨ ∃ o xs, H b = some (.frz o (.lst xs))

/-- THE HEAD: the law's promise, at the heap behind the top. F, the promise of the law's def, may use that base is part of the heap (so K.In base, base.Ns mainGlobals mg stand in Mod) -/
theorem law_call {P : Program} {w : World} {K : PySem.W.Frag} {mg mb : Str → Option Value} {CX : CXT} {k : Nat} {fa a : Addr} {fd : FuncData} {x : Str} {sp : Sp} {s₁ : Shared} {vs : List Value} {ns : List Int}
    (KX : K.In s₁.heap) (hns : s₁.heap.Ns mainGlobals mg) (hb : s₁.heap.Ns builtinsNs mb) (hbb : ∀ x : Str, x ≠ "__name__" → mb x = bootBuiltins x) (hlim : s₁.heap.NoLimit) (hg : s₁.gens = #[])
    (ha : s₁.heap.get? a = some { cls := .type "list", data := .seq vs.toArray }) (hi : IntsAre vs ns) (hl : ns.length ≤ sizeLine) (hr : Room k callerA)
    (F : ∀ base : Heap, K.In base → base.Ns mainGlobals mg → FnOk P w K mg base CX k fa fd [x] sp) (hbind : ∀ (s : Shared) (u : Value), BindsTo s fd ⟨[u], []⟩ [(x, u)])
    (hsp : ∀ H : Hp, Only H → SqL K H a (ns.map V.int) → sp [.ref a] H (fun v _ => v = .bl true) fun _ _ _ => False)
    (hCX : ∀ H e s', CX [] H s₁ (fun _ _ _ => False) e s' → False) :
    codeAny (model P w) callerA (.call (.ref fa) ⟨[.ref a], []⟩) (fun r s' => r = .ok (.ret (.bool true)) ∧ OldK s₁.heap s'.heap ∧ s'.os = s₁.os ∧ AllBare s'.gens) s₁ := by
  have rv := vals_ints hi
  have lenV := hi.length
  -- from an abstract heap in which nothing but the script may be tracked
  have core : ∀ H : Hp, Only H → SqL K H a (ns.map V.int) → HOk P w H s₁.heap → (∀ b, H b ≠ none → b = a) → (H a ≠ none → K.lookup a = none) →
      codeAny (model P w) callerA (.call (.ref fa) ⟨[.ref a], []⟩) (fun r s' => r = .ok (.ret (.bool true)) ∧ OldK s₁.heap s'.heap ∧ s'.os = s₁.os ∧ AllBare s'.gens) s₁ := by
    intro H hO hS hok hA hK
    have base_of : ∀ {b : Addr} {o : Obj}, s₁.heap.get? b = some o → H b = none → (hidT s₁.heap H).get? b = some o := fun e n => hidT_get e n
    have noA : ∀ {b : Addr} {o : Obj} {es : Array DictEntry} {ep : Nat}, s₁.heap.get? b = some o → o.data = .dict es ep → H b = none := fun {b o es ep} e d => by
      cases q : H b with
      | none => rfl
      | some u =>
        have e' : b = a := hA b (by rw [q]; simp)
        subst e'
        rw [ha] at e; cases e
        have d' : Data.seq vs.toArray _ = Data.dict es ep := d
        cases d'
    have nsK : ∀ {b : Addr} {m : Str → Option Value}, s₁.heap.Ns b m → (hidT s₁.heap H).Ns b m := fun {b m} ⟨o, es, ep, e, d, r⟩ => ⟨o, es, ep, base_of e (noA e d), d, r⟩
    have hKb : K.In (hidT s₁.heap H) := fun b o e => base_of (KX b o e) (by
      cases q : H b with
      | none => rfl
      | some u =>
        have e' : b = a := hA b (by rw [q]; simp)
        subst e'
        rw [hK (by rw [q]; simp)] at e; cases e)
    have hM : Mod K mg (hidT s₁.heap H) := ⟨hKb, nsK hns, ⟨mb, nsK hb, hbb⟩, let ⟨mc, h1, h2⟩ := hlim; ⟨mc, nsK h1, h2⟩⟩
    have e0 : Env0 P w K mg (hidT s₁.heap H) callerA [] s₁ H := ⟨rfl, hM, fun b o e => of_hidT e, Nat.le_of_eq (hidT_size _ _), trivial, fun b hb => absurd (show b ∈ ([] : List Addr) from hb) (by simp), hok, .of_eq hg⟩
    refine codeAny_mono ((F _ hKb (nsK hns)).run callerA [] s₁ H ⟨[.ref a], []⟩ [.ref a] [.ref a] _ _ hr e0 (hbind s₁ (.ref a)) (.cons rfl .nil) (hsp H hO hS)) fun r s' h => ?_
    cases r with
    | error e => exact (hCX H e s' h).elim
    | ok fl =>
      cases fl with
      | next => exact False.elim h
      | brk => exact False.elim h
      | cont => exact False.elim h
      | ret u =>
        obtain ⟨v, H', os, bare, un, hok', r', q⟩ := h
        have q' : v = .bl true := q
        subst q'
        obtain rfl : u = Value.bool true := r'
        refine ⟨rfl, OldK.of_keep fun b o e => ?_, os, bare⟩
        cases q : H b with
        | none => exact un.keep b o e q (by intro z; exact absurd (show b ∈ ([] : List Addr) from z) (by simp)) (by simp)
        | some u =>
          rcases hO b with z | ⟨ob, xs, z⟩
          · rw [q] at z; cases z
          · have z2 := un.frzs b ob _ z
            obtain ⟨e1, _⟩ := hok b _ z
            obtain ⟨e2, _⟩ := hok' b _ z2
            rw [e] at e1; cases e1
            exact e2
  cases hk : K.lookup a with
  | some o =>
    -- the script is one of the module's own objects
    have e := KX a o hk
    rw [ha] at e
    cases e
    refine core (fun _ => none) (fun _ => .inl rfl) (.inr ⟨_, vs.toArray, _, hk, rfl, rfl, rfl, by rw [List.size_toArray, lenV]; exact hl, by simpa using rv⟩) (fun b u z => by have z' : (none : Option HO) = some u := z; cases z') (fun b z => absurd rfl z) fun z => absurd rfl z
  | none =>
    refine core (fun b => if b = a then some (.frz { cls := .type "list", data := .seq vs.toArray } (.lst (ns.map V.int))) else none) (fun b => ?_) (.inl (.inr ⟨{ cls := .type "list", data := .seq vs.toArray }, if_pos rfl⟩)) (fun b u z => ?_) (fun b z => ?_) fun _ => hk
    · by_cases hb : b = a
      · exact .inr ⟨_, _, if_pos hb⟩
      · exact .inl (if_neg hb)
    · by_cases hb : b = a
      · have z' := (if_pos hb).symm.trans z
        cases z'
        subst hb
        exact ⟨ha, by rw [List.length_map]; exact hl, vs, _, rv, ha⟩
      · have z' := (if_neg hb).symm.trans z
        cases z'
    · by_cases hb : b = a
      · exact hb
      · exact absurd (if_neg hb) z
end L2

namespace L2
open PySem PySem.Spec PyProof.Rows

abbrev KOf {K : PySem.W.Frag} {h : Heap} (_ : K.In h) : PySem.W.Frag := K

/-- the goal that k_head leaves (case hc), from the law's promise. F gives the function object fd (K's own) once, then the promise over every base -/
theorem walk_of {l : PySem.W.OpenLaw} {n k : Nat} {q : Program} {loose : List Str} {XP : (Str → Option Value) → Heap → Prop} {YP : World → Heap → Prop} {d : DefRec} {K : Params → PySem.W.Frag} {CX : World → CXT} {sp : World → Sp} {x : Str}
    (hn : l.most = some n) (hn2 : n ≤ sizeLine) (hdf : d.params.defaults = []) (hr : Room k callerA)
    (hY : ∀ (w : World) (h : Heap), YP w h → (K w.params).In h)
    (F : ∀ (w : World) (mg : Str → Option Value) (fa : Addr) (h : Heap), (K w.params).In h → h.Ns mainGlobals mg → mg d.name = some (.ref fa) →
      ∃ fd : FuncData, (∀ (s : Shared) (u : Value), BindsTo s fd ⟨[u], []⟩ [(x, u)]) ∧
        ∀ base : Heap, (K w.params).In base → base.Ns mainGlobals mg → FnOk l.prog w (K w.params) mg base (CX w) k fa fd [x] (sp w))
    (hsp : ∀ (w : World) (H : Hp) (a : Addr) (ns : List Int), ns.length ≤ n → Only H → SqL (K w.params) H a (ns.map V.int) → sp w [.ref a] H (fun v _ => v = .bl true) fun _ _ _ => False)
    (hCX : ∀ (w : World) (H : Hp) (s : Shared) (e : Value) (s' : Shared), CX w [] H s (fun _ _ _ => False) e s' → False) :
    PySem.W.WalkO q loose XP YP l.row.toRowW d [] (fun f vs => PySem.call f vs) := by
  refine Att.attach_call hn hdf fun w s₀ s₁ mg mb fa o pm cd doc a vs ns G Y ho hd hcd hmg hobj hints hlen hg => ?_
  have KX := hY w _ Y
  obtain ⟨fd, hb, hF⟩ := F w mg fa _ KX G.T.g hmg
  exact law_call KX G.T.g G.T.b G.T.builtins G.T.nolimit hg hobj hints (Nat.le_trans hlen hn2) hr hF hb (fun H hO hS => hsp w H a ns hlen hO hS) fun H e s' => hCX w H s₁ e s'
/-- the same where the promise hangs on the written part alone: (sp := My.sp_law), no hole under a binder -/
theorem walk_ofK {l : PySem.W.OpenLaw} {n k : Nat} {q : Program} {loose : List Str} {XP : (Str → Option Value) → Heap → Prop} {YP : World → Heap → Prop} {d : DefRec} {K : Params → PySem.W.Frag} {CX : CXT} {sp : PySem.W.Frag → Sp} {x : Str}
    (hn : l.most = some n) (hn2 : n ≤ sizeLine) (hdf : d.params.defaults = []) (hr : Room k callerA)
    (hY : ∀ (w : World) (h : Heap), YP w h → (K w.params).In h)
    (F : ∀ (w : World) (mg : Str → Option Value) (fa : Addr) (h : Heap), (K w.params).In h → h.Ns mainGlobals mg → mg d.name = some (.ref fa) →
      ∃ fd : FuncData, (∀ (s : Shared) (u : Value), BindsTo s fd ⟨[u], []⟩ [(x, u)]) ∧
        ∀ base : Heap, (K w.params).In base → base.Ns mainGlobals mg → FnOk l.prog w (K w.params) mg base CX k fa fd [x] (sp (K w.params)))
    (hsp : ∀ (K : PySem.W.Frag) (H : Hp) (a : Addr) (ns : List Int), ns.length ≤ n → Only H → SqL K H a (ns.map V.int) → sp K [.ref a] H (fun v _ => v = .bl true) fun _ _ _ => False)
    (hCX : ∀ (H : Hp) (s : Shared) (e : Value) (s' : Shared), CX [] H s (fun _ _ _ => False) e s' → False) :
    PySem.W.WalkO q loose XP YP l.row.toRowW d [] (fun f vs => PySem.call f vs) :=
  walk_of (K := K) (CX := fun _ => CX) (sp := fun w => sp (K w.params)) hn hn2 hdf hr hY F (fun w H a ns h1 h2 h3 => hsp (K w.params) H a ns h1 h2 h3) fun _ H s e s' => hCX H s e s'
end L2

/- THE LAST THEOREM (shape; LID, My.* are yours):
   My.Adr: a structure of the addresses that your layer names (classes, functions); My.Txt K t: a structure (Prop) of the equations over K;
   My.txt_mk : {K} {implicit addresses ..} (e1 : nsIn K mainGlobals "law" = some (some (.ref f))) (e2 : K.lookup f = some ⟨oc, od, .func (fnOf "law" "law" params body scope dV kV doc pm an cdv ct), sl⟩) (e3 : codeIn K cdv "law" = true) .. : ∃ t, My.Txt K t

set_option maxRecDepth 100000 in
set_option maxHeartbeats 0 in
theorem PySem.Challenge.cw_LID_holds : PySem.Challenge.rw_LID.Holds := by
  w_on; o_law; k_head; (case hw => w_witness2)
  k_fill
  refine L2.walk_of (l := PySem.Challenge.rw_LID) (n := 63) (k := 40) (x := "script") (CX := fun w => ..) (sp := fun _ => My.sp_law) rfl (by decide) rfl ⟨rfl, by decide, by decide⟩ (fun w h Y => PySem.W.kIn_of Y) ?F ?S ?C
  case F =>
    intro w mg fa h KX G hmg
    have T : ∃ t, My.Txt (L2.KOf KX) t := by
      dsimp only [L2.KOf]                          -- K must stand as «<heap const> w.params» for k_is
      refine' My.txt_mk ?e1 ?e2 ?e3 ..
      (case e1 => PySem.W.k_is)                    -- in the order: a name -> its address -> its object -> its parts
      (case e2 => PySem.W.k_is)
      ..
    obtain ⟨t, T⟩ := T
    have e0 := hmg.symm.trans (PySem.W.mg_of KX G T.law)
    cases e0                                       -- fa is the law's own address
    exact ⟨_, fun s u => .of_eq rfl, fun base kb nb => My.law_fn T kb nb⟩     -- if «.of_eq rfl» comes too early: refine' ⟨_, ?b, fun base kb nb => My.law_fn T kb nb⟩; exact fun s u => .of_eq rfl
  case S => exact fun w H a ns hl hO hS => ..
  case C => exact ..
(the tactic k_is has no namespace: write k_is) -/

/-! SHORT WORDS over the layer: a def of the text, its body, what a loop and a test want. -/
namespace L2
open PySem PySem.Spec PyProof.Rows

/-! ### the text by places -/
/-- the j-th statement of a class's body -/
def inClass (s : Stmt) (j : Nat) : Stmt := match s with
  | .ClassDef _ _ _ body _ _ _ _ _ _ _ => body.getD j (.Pass ⟨0, 0, 0, 0⟩)
  | _ => .Pass ⟨0, 0, 0, 0⟩
def defArgs (s : Stmt) : Arguments := match s with
  | .FunctionDef _ a _ _ _ _ _ _ _ _ => a
  | _ => { posonlyargs := [], args := [], vararg := none, kwonlyargs := [], kw_defaults := [], kwarg := none, defaults := [] }
def defBody (s : Stmt) : List Stmt := match s with
  | .FunctionDef _ _ b _ _ _ _ _ _ _ => b
  | _ => []
def defScope (s : Stmt) : Scope := match s with
  | .FunctionDef _ _ _ _ _ _ sc _ _ _ => sc
  | _ => { kind := .function, names := [], isGenerator := false, isCoroutine := false }

/-! ### no exception leaves a def -/
abbrev CX0 : CXT := fun _ _ _ _ _ _ => False
abbrev E0 : XK := fun _ _ _ => False
theorem pass0 {X : Cx} : Passes CX0 X E0 := fun _ _ _ _ _ _ _ h => h.elim

/-! ### a def (or method) of the text as it stands behind the top -/
structure Fun (K : PySem.W.Frag) (x qual : Str) (st : Stmt) (f : Addr) (fd : FuncData) : Prop where
  ex : ∃ (oc : Value) (od : Option Addr) (kV doc pm : Value) (an : Option Addr) (cdv ct : Value) (osl : Array (Option Value)),
    fd = PySem.W.fnOf x qual (defArgs st) (defBody st) (defScope st) .none kV doc pm an cdv ct ∧ K.lookup f = some ⟨oc, od, .func fd, osl⟩ ∧ PySem.W.codeIn K cdv qual = true
  kp : PySem.W.keepIn K (.ref f) = true
section
variable {P : Program} {w : World} {K : PySem.W.Frag} {mg : Str → Option Value} {base : Heap}
/-- THE RULE for a def: its body as a term of rules, and the reading of that term -/
theorem Fun.ok {x qual : Str} {st : Stmt} {f : Addr} {fd : FuncData} {N ps : List Str} {k : Nat} {sp : Sp} (F : Fun K x qual st f fd) (S : FnScope N ps (defScope st)) (len : ∀ vs H Q E, sp vs H Q E → vs.length = ps.length)
    (hbody : ∀ (cdv : Value) (A : Around) (outer : List Env) (s : Shared) (H : Hp) (vs : List V) (Q : VK) (E : XK), Room k (A.deeper (envOfC qual (defScope st) s.heap.objs.size f cdv)) → sp vs H Q E →
      ∃ t, PSs (cxOf CX0 P w K mg base N qual (defScope st) f cdv A outer s H E).nox (defBody st) t ∧ t { nx := fun _ H' => Q .non H', rt := Q } (start N vs) H) : FnOk P w K mg base CX0 (k + 1) f fd ps sp := by
  obtain ⟨oc, od, kV, doc, pm, an, cdv, ct, osl, rfl, lk, hcd⟩ := F.ex
  refine fn_of lk hcd S len fun A outer s H vs Q E hr hsp => ?_
  obtain ⟨t, h, q⟩ := hbody cdv A outer s H vs Q E hr hsp
  exact ⟨t, h.nox, q⟩
/-- how its arguments bind (no defaults): h is «fun _ _ _ _ _ _ us hl => match us, hl with | [_, _], _ => rfl», one _ a parameter -/
theorem Fun.binds {x qual : Str} {st : Stmt} {f : Addr} {fd : FuncData} {ps : List Str} (F : Fun K x qual st f fd)
    (h : ∀ (kV doc pm : Value) (an : Option Addr) (cdv ct : Value) (us : List Value), us.length = ps.length → bindArgs (PySem.W.fnOf x qual (defArgs st) (defBody st) (defScope st) .none kV doc pm an cdv ct) ⟨us, []⟩ = pure (ps.zip us)) : Binds K fd ps [] := by
  obtain ⟨oc, od, kV, doc, pm, an, cdv, ct, osl, rfl, lk, hcd⟩ := F.ex
  exact .all (h kV doc pm an cdv ct)
theorem fun_mk {x qual : Str} {st : Stmt} {f : Addr} {oc : Value} {od an : Option Addr} {osl : Array (Option Value)} {kV doc pm cdv ct : Value} (l : K.lookup f = some ⟨oc, od, .func (PySem.W.fnOf x qual (defArgs st) (defBody st) (defScope st) .none kV doc pm an cdv ct), osl⟩)
    (c : PySem.W.codeIn K cdv qual = true) (k : PySem.W.keepIn K (.ref f) = true) : Fun K x qual st f (PySem.W.fnOf x qual (defArgs st) (defBody st) (defScope st) .none kV doc pm an cdv ct) := ⟨⟨oc, od, kV, doc, pm, an, cdv, ct, osl, rfl, l, c⟩, k⟩
end
theorem hu_of {A : Around} {k : Nat} (hr : Room k A) : A.units + 1 < cLine := Nat.lt_of_le_of_lt (Nat.add_le_add_left (by decide : 1 ≤ 64) _) hr.units
theorem small1000 {n : Nat} (h : n ≤ 1000) : n < sizeLine := Nat.lt_of_le_of_lt h (by decide)

/-! ### expressions in short: the name that stands in the i-th slot -/
section
variable {X : Cx}
theorem pv (i : Nat) {x : Str} {pos : Pos} (hN : X.N[i]? = some x := by rfl) (hv : Vis X.env.scope x := by first | exact Or.inl rfl | exact Or.inr (Or.inl rfl) | exact Or.inr (Or.inr rfl)) (hd : (x == ("__debug__" : Str)) = false := by decide)
    (hcd : (x == ("__classdict__" : Str)) = false := by decide) : PE X (.Name x pos) (tVar i) := pe_var hN hv hd hcd
end

/-! ### tests -/
theorem iteF {A B : Prop} (h : B) : if false = true then A else B := by
  rw [if_neg Bool.false_ne_true]
  exact h
theorem iteT {A B : Prop} (h : A) : if true = true then A else B := by
  rw [if_pos rfl]
  exact h
theorem ite2 {c A B : Prop} [Decidable c] (h1 : c → A) (h2 : ¬ c → B) : if c then A else B := by
  by_cases h : c
  · rw [if_pos h]
    exact h1 h
  · rw [if_neg h]
    exact h2 h
theorem iteNS {c A B : Prop} [Decidable c] (hc : c) (h : B) : if (!decide c) = true then A else B := by
  rw [decide_eq_true hc]
  exact iteF h

/-! ### heaps -/
/-- all that was tracked is as it was -/
def Same (H H' : Hp) : Prop := ∀ b o, H b = some o → H' b = some o
theorem Same.refl (H : Hp) : Same H H := fun _ _ h => h
theorem Same.trans {H H1 H2 : Hp} (a : Same H H1) (b : Same H1 H2) : Same H H2 := fun c o h => b c o (a c o h)
theorem Same.free {H H' : Hp} (e : Same H H') {l : Addr} (h : H' l = Option.none) : H l = Option.none := by
  cases q : H l with
  | none => rfl
  | some o =>
    rw [e l o q] at h
    cases h
theorem Same.seq {K : PySem.W.Frag} {H H' : Hp} {a : Addr} {xs : List V} (e : Same H H') (h : SqL K H a xs) : SqL K H' a xs := by
  rcases h with (h | ⟨o, h⟩) | h
  · exact .inl (.inl (e _ _ h))
  · exact .inl (.inr ⟨o, e _ _ h⟩)
  · exact .inr h

end L2
end
section
set_option Elab.async false
set_option linter.all false
set_option maxRecDepth 100000
namespace L2
open PySem PySem.Spec PyProof.Rows

/-! ### lists of pairs as tables -/
section
variable {κ : Type} [DecidableEq κ]
def valV (kvs : List (κ × V)) (k : κ) : Option V := (kvs.find? fun kv => decide (kv.1 = k)).map (·.2)
/-- in its place, or at the end -/
def putK (kvs : List (κ × V)) (k : κ) (v : V) : List (κ × V) :=
  if (kvs.any fun kv => decide (kv.1 = k)) = true then kvs.map (fun kv => if kv.1 = k then (kv.1, v) else kv) else kvs ++ [(k, v)]
def dropK (kvs : List (κ × V)) (k : κ) : List (κ × V) := kvs.filter fun kv => decide (kv.1 ≠ k)

theorem valV_nil {k : κ} : valV ([] : List (κ × V)) k = none := rfl
theorem valV_pos {p : κ × V} {r : List (κ × V)} {k : κ} (e : p.1 = k) : valV (p :: r) k = some p.2 := by simp [valV, List.find?_cons, e]
theorem valV_neg {p : κ × V} {r : List (κ × V)} {k : κ} (e : ¬ p.1 = k) : valV (p :: r) k = valV r k := by simp [valV, List.find?_cons, e]
theorem valV_any (k : κ) : ∀ kvs : List (κ × V), (kvs.any fun kv => decide (kv.1 = k)) = (valV kvs k).isSome
  | [] => rfl
  | p :: r => by
    rw [List.any_cons]
    by_cases e : p.1 = k
    · simp only [valV_pos e, decide_eq_true e, Bool.true_or, Option.isSome_some]
    · rw [valV_neg e, decide_eq_false e, Bool.false_or]; exact valV_any k r
theorem valV_map (k j : κ) (y : V) : ∀ kvs : List (κ × V), valV (kvs.map fun kv => if kv.1 = k then (kv.1, y) else kv) j = (valV kvs j).map fun x => if j = k then y else x
  | [] => rfl
  | p :: r => by
    have ih := valV_map k j y r
    rw [List.map_cons]
    by_cases h : p.1 = k
    · rw [if_pos h]
      by_cases e : p.1 = j
      · rw [valV_pos (p := (p.1, y)) e, valV_pos e, Option.map_some, if_pos (e.symm.trans h)]
      · rw [valV_neg (p := (p.1, y)) e, valV_neg e, ih]
    · rw [if_neg h]
      by_cases e : p.1 = j
      · rw [valV_pos (p := p) e, valV_pos e, Option.map_some, if_neg (fun z => h (e.trans z))]
      · rw [valV_neg (p := p) e, valV_neg e, ih]
theorem valV_snoc (k j : κ) (y : V) : ∀ kvs : List (κ × V), valV kvs k = none → valV (kvs ++ [(k, y)]) j = if j = k then some y else valV kvs j
  | [], _ => by
    by_cases e : k = j
    · rw [if_pos e.symm]; exact valV_pos (p := (k, y)) e
    · rw [if_neg (fun z => e z.symm)]; exact valV_neg (p := (k, y)) e
  | p :: r, hn => by
    rw [List.cons_append]
    have hk : ¬ p.1 = k := fun z => by rw [valV_pos z] at hn; cases hn
    rw [valV_neg hk] at hn
    have ih := valV_snoc k j y r hn
    by_cases e : p.1 = j
    · rw [valV_pos e, valV_pos e, if_neg (fun z => hk (e.trans z))]
    · rw [valV_neg e, valV_neg e, ih]
theorem valV_put (kvs : List (κ × V)) (k j : κ) (y : V) : valV (putK kvs k y) j = if j = k then some y else valV kvs j := by
  unfold putK
  by_cases a : (kvs.any fun kv => decide (kv.1 = k)) = true
  · rw [if_pos a, valV_map]
    rw [valV_any] at a
    by_cases e : j = k
    · obtain ⟨x, hx⟩ := Option.isSome_iff_exists.mp a
      rw [if_pos e, e, hx, Option.map_some, if_pos rfl]
    · rw [if_neg e]
      cases valV kvs j with
      | none => rfl
      | some x => rw [Option.map_some, if_neg e]
  · rw [if_neg a]
    refine valV_snoc k j y kvs ?_
    rw [valV_any] at a
    cases q : valV kvs k with
    | none => rfl
    | some x => rw [q] at a; exact (a rfl).elim
theorem length_putK (kvs : List (κ × V)) (k : κ) (v : V) : (putK kvs k v).length ≤ kvs.length + 1 := by
  unfold putK
  split
  · rw [List.length_map]; omega
  · rw [List.length_append, List.length_cons, List.length_nil]; omega
theorem putK_new {kvs : List (κ × V)} {k : κ} (v : V) (h : valV kvs k = none) : putK kvs k v = kvs ++ [(k, v)] := by
  unfold putK
  rw [valV_any, h]
  exact if_neg (by decide)

theorem RelO.isSome_eq {o : Option V} {u : Option Value} (r : RelO o u) : o.isSome = u.isSome := by
  cases o with
  | none => cases u with
    | none => rfl
    | some _ => exact (show False from r).elim
  | some _ => cases u with
    | none => exact (show False from r).elim
    | some _ => rfl
theorem RelO.getD {o : Option V} {u : Option Value} {d : V} {d' : Value} (r : RelO o u) (rd : RelV d d') : RelV (o.getD d) (u.getD d') := by
  cases o with
  | none => cases u with
    | none => exact rd
    | some _ => exact (show False from r).elim
  | some _ => cases u with
    | none => exact (show False from r).elim
    | some _ => exact r

/-- raw tables of the same keys -/
theorem KV.val {kvs : List (κ × V)} {vs : List (κ × Value)} (r : KV kvs vs) (k : κ) : RelO (valV kvs k) (valueAt vs k) := by
  unfold KV at r
  induction r with
  | nil => exact True.intro
  | @cons p q ps qs h t ih =>
    obtain ⟨h1, h2⟩ := h
    by_cases e : p.1 = k
    · have e' : q.1 = k := h1.symm.trans e
      have b : valueAt (q :: qs) k = some q.2 := by simp [valueAt, List.find?_cons, e']
      rw [valV_pos e, b]; exact h2
    · have e' : ¬ q.1 = k := fun z => e (h1.trans z)
      have b : valueAt (q :: qs) k = valueAt qs k := by simp [valueAt, List.find?_cons, e']
      rw [valV_neg e, b]; exact ih
theorem KV.any {kvs : List (κ × V)} {vs : List (κ × Value)} (r : KV kvs vs) (k : κ) : (kvs.any fun kv => decide (kv.1 = k)) = vs.any fun kv => decide (kv.1 = k) := by
  unfold KV at r
  induction r with
  | nil => rfl
  | cons h t ih => rw [List.any_cons, List.any_cons, ih, h.1]
theorem KV.repl {kvs : List (κ × V)} {vs : List (κ × Value)} (r : KV kvs vs) (k : κ) {y : V} {u : Value} (ry : RelV y u) :
    KV (kvs.map fun kv => if kv.1 = k then (kv.1, y) else kv) (vs.map fun kv => if kv.1 = k then (kv.1, u) else kv) := by
  unfold KV at r ⊢
  induction r with
  | nil => exact .nil
  | @cons p q ps qs h t ih =>
    rw [List.map_cons, List.map_cons]
    refine .cons ?_ ih
    obtain ⟨h1, h2⟩ := h
    by_cases e : p.1 = k
    · rw [if_pos e, if_pos (h1.symm.trans e)]; exact ⟨h1, ry⟩
    · rw [if_neg e, if_neg (fun z => e (h1.trans z))]; exact ⟨h1, h2⟩
theorem KV.put {kvs : List (κ × V)} {vs : List (κ × Value)} (r : KV kvs vs) (k : κ) {y : V} {u : Value} (ry : RelV y u) : KV (putK kvs k y) (stored vs k u) := by
  unfold putK stored
  rw [r.any k]
  by_cases e : (vs.any fun kv => decide (kv.1 = k)) = true
  · rw [if_pos e, if_pos e]; exact r.repl k ry
  · rw [if_neg e, if_neg e]; exact Paired.snoc r ⟨rfl, ry⟩
theorem KV.drop {kvs : List (κ × V)} {vs : List (κ × Value)} (r : KV kvs vs) (k : κ) : KV (dropK kvs k) (without vs k) := by
  unfold KV at r ⊢
  unfold dropK without
  induction r with
  | nil => exact .nil
  | @cons p q ps qs h t ih =>
    obtain ⟨h1, h2⟩ := h
    rw [List.filter_cons, List.filter_cons]
    by_cases e : p.1 = k
    · have a : ¬ decide (p.1 ≠ k) = true := by simp [e]
      have b : ¬ decide (q.1 ≠ k) = true := by simp [h1.symm.trans e]
      rw [if_neg a, if_neg b]; exact ih
    · have e' : ¬ q.1 = k := fun z => e (h1.trans z)
      have a : decide (p.1 ≠ k) = true := by simp [e]
      have b : decide (q.1 ≠ k) = true := by simp [e']
      rw [if_pos a, if_pos b]; exact .cons ⟨h1, h2⟩ ih
theorem KV.keys {kvs : List (κ × V)} {vs : List (κ × Value)} (r : KV kvs vs) : kvs.map (·.1) = vs.map (·.1) := by
  unfold KV at r
  induction r with
  | nil => rfl
  | cons h t ih => rw [List.map_cons, List.map_cons, ih, h.1]
theorem KV.length {kvs : List (κ × V)} {vs : List (κ × Value)} (r : KV kvs vs) : kvs.length = vs.length := Paired.length r
theorem dropK_le (kvs : List (κ × V)) (k : κ) : (dropK kvs k).length ≤ kvs.length := List.length_filter_le _ _
end


/-! ### a tracked dict, its keys ints and texts or tuples of these -/
theorem kV_is {P : Program} {w : World} {k : Key} {u : Value} (r : RelV (kV k) u) : (mixKind P w).is k u = true := by
  cases k with
  | inl i => obtain ⟨t, e⟩ := (show ∃ t, u = Value.int i t from r); subst e; exact mixKind_int P w i t
  | inr x => obtain ⟨t, e⟩ := (show ∃ t, u = Value.str x t from r); subst e; exact mixKind_str P w x t
theorem kV_inj {a b : Key} (e : kV a = kV b) : a = b := by
  cases a with
  | inl i => cases b with
    | inl j => have e' : V.int i = V.int j := e; injection e' with e'; rw [e']
    | inr y => exact nomatch (show V.int i = V.str y from e)
  | inr x => cases b with
    | inl j => exact nomatch (show V.str x = V.int j from e)
    | inr y => have e' : V.str x = V.str y := e; injection e' with e'; rw [e']
theorem kVs_inj : ∀ {a b : List Key}, a.map kV = b.map kV → a = b
  | [], [], _ => rfl
  | [], _ :: _, e => by simp at e
  | _ :: _, [], e => by simp at e
  | x :: xs, y :: ys, e => by
    rw [List.map_cons, List.map_cons] at e
    injection e with e1 e2
    rw [kV_inj e1, kVs_inj e2]
theorem items_are {P : Program} {w : World} : ∀ {ks : List Key} {us : List Value}, Vals (ks.map kV) us → ItemsAre (mixKind P w) ks us
  | [], _, r => by rw [List.map_nil] at r; cases r; exact .nil
  | k :: ks, _, r => by
    rw [List.map_cons] at r
    cases r with
    | cons h t => exact .cons (kV_is h) (items_are t)

/-- raw entries of a dict with tuple keys -/
abbrev KT (H : Hp) : List (List Key × V) → List (List Key × Addr × Value) → Prop := Paired fun p q => p.1 = q.1 ∧ H q.2.1 = some (.tup (p.1.map kV)) ∧ RelV p.2 q.2.2
theorem KT.val {H : Hp} {kvs : List (List Key × V)} {xs : List (List Key × Addr × Value)} (r : KT H kvs xs) (k : List Key) : RelO (valV kvs k) ((atKey xs k).map (·.2)) := by
  induction r with
  | nil => exact True.intro
  | @cons p q ps qs h t ih =>
    obtain ⟨h1, _, h2⟩ := h
    by_cases e : p.1 = k
    · have e' : q.1 = k := h1.symm.trans e
      have b : atKey (q :: qs) k = some q.2 := by simp [atKey, List.find?_cons, e']
      rw [valV_pos e, b]; exact h2
    · have e' : ¬ q.1 = k := fun z => e (h1.trans z)
      have b : atKey (q :: qs) k = atKey qs k := by simp [atKey, List.find?_cons, e']
      rw [valV_neg e, b]; exact ih
theorem KT.repl {H : Hp} {kvs : List (List Key × V)} {xs : List (List Key × Addr × Value)} (r : KT H kvs xs) (k : List Key) {y : V} {u : Value} (ry : RelV y u) :
    KT H (kvs.map fun kv => if kv.1 = k then (kv.1, y) else kv) (xs.map (putAt k u)) := by
  induction r with
  | nil => exact .nil
  | @cons p q ps qs h t ih =>
    rw [List.map_cons, List.map_cons]
    refine .cons ?_ ih
    obtain ⟨h1, h2, h3⟩ := h
    unfold putAt
    by_cases e : p.1 = k
    · rw [if_pos e, if_pos (h1.symm.trans e)]; exact ⟨h1, h2, ry⟩
    · rw [if_neg e, if_neg (fun z => e (h1.trans z))]; exact ⟨h1, h2, h3⟩
theorem KT.put {H : Hp} {kvs : List (List Key × V)} {xs : List (List Key × Addr × Value)} (r : KT H kvs xs) (k : List Key) {b : Addr} {y : V} {u : Value} (hb : H b = some (.tup (k.map kV))) (ry : RelV y u) :
    KT H (putK kvs k y) (storedH xs k b u) := by
  have e : (kvs.any fun kv => decide (kv.1 = k)) = (atKey xs k).isSome := by
    rw [valV_any, (r.val k).isSome_eq, Option.isSome_map]
  unfold putK storedH
  rw [e]
  by_cases q : (atKey xs k).isSome = true
  · rw [if_pos q, if_pos q]; exact r.repl k ry
  · rw [if_neg q, if_neg q]; exact Paired.snoc r ⟨rfl, hb, ry⟩
theorem KT.keeps {H H' : Hp} {kvs : List (List Key × V)} {xs : List (List Key × Addr × Value)} (r : KT H kvs xs) (ht : ∀ b ys, H b = some (.tup ys) → H' b = some (.tup ys)) : KT H' kvs xs :=
  Paired.mapP r fun _ _ z => ⟨z.1, ht _ _ z.2.1, z.2.2⟩

section
variable {P : Program} {w : World} {H : Hp} {h : Heap} {a : Addr}
theorem rd_of {u : HO} (ok : HOk P w H h) (e : Rd H a u) : ObjOk P w H h a u := e.ok ok
theorem dk_rd {kvs : List (Key × V)} (ok : HOk P w H h) (e : Rd H a (.dK kvs)) : kvs.length ≤ sizeLine ∧ (a == sysModules) = false ∧ ∃ vs, KV kvs vs ∧ h.DictOf (mixKind P w) a vs :=
  show ObjOk P w H h a (.dK kvs) from rd_of ok e
theorem dk_of {kvs : List (Key × V)} (ok : HOk P w H h) (e : H a = some (.dK kvs)) : kvs.length ≤ sizeLine ∧ (a == sysModules) = false ∧ ∃ vs, KV kvs vs ∧ h.DictOf (mixKind P w) a vs := dk_rd ok (.inl e)
/-- a tracked tuple of ints and texts is a key -/
theorem key_of {ks : List Key} (ok : HOk P w H h) (e : H a = some (.tup (ks.map kV))) : (tupleKind (mixKind P w)).is h ks a := by
  obtain ⟨_, its, r, o, h1, h2, n, h3⟩ := (show ObjOk P w H h a (.tup (ks.map kV)) from ok a _ e)
  exact ⟨o, its.toArray, n, h1, h2, h3, by simpa using items_are r⟩
theorem dt_rd {kvs : List (List Key × V)} (ok : HOk P w H h) (e : Rd H a (.dT kvs)) : kvs.length ≤ sizeLine ∧ (a == sysModules) = false ∧
    ∃ xs, KT H kvs xs ∧ h.DictOfH (tupleKind (mixKind P w)) a xs := by
  obtain ⟨z, y, xs, r, o, es, ep, h1, h2, h3, h4, h5⟩ := (show ObjOk P w H h a (.dT kvs) from rd_of ok e)
  refine ⟨z, y, xs, r, o, es, ep, h1, h2, h3, h4, fun x hx => ?_, h5⟩
  have all : ∀ {l : List (List Key × V)} {m : List (List Key × Addr × Value)}, KT H l m → ∀ x ∈ m, (tupleKind (mixKind P w)).is h x.1 x.2.1 := by
    intro l m q
    induction q with
    | nil => intro x hx; exact nomatch hx
    | @cons p q ps qs hq t ih =>
      intro x hx
      rcases List.mem_cons.mp hx with e | hx
      · subst e
        exact key_of ok (by rw [← hq.1]; exact hq.2.1)
      · exact ih x hx
  exact all r x hx
theorem dt_of {kvs : List (List Key × V)} (ok : HOk P w H h) (e : H a = some (.dT kvs)) : kvs.length ≤ sizeLine ∧ (a == sysModules) = false ∧
    ∃ xs, KT H kvs xs ∧ h.DictOfH (tupleKind (mixKind P w)) a xs := dt_rd ok (.inl e)
end

/-- what the dict at a holds at the key y -/
def DGet (H : Hp) (a : Addr) (y : V) (r : Option V) : Prop :=
  (∃ kvs k, Rd H a (.dK kvs) ∧ y = kV k ∧ r = valV kvs k) ∨ ∃ kvs k b, Rd H a (.dT kvs) ∧ y = .ref b ∧ H b = some (.tup (k.map kV)) ∧ r = valV kvs k
/-- the heap behind a[y] = v -/
def DPut (H : Hp) (a : Addr) (y v : V) (H' : Hp) : Prop :=
  (∃ kvs k, H a = some (.dK kvs) ∧ y = kV k ∧ kvs.length < sizeLine ∧ H' = upd H a (.dK (putK kvs k v))) ∨
  ∃ kvs k b, H a = some (.dT kvs) ∧ y = .ref b ∧ H b = some (.tup (k.map kV)) ∧ kvs.length < sizeLine ∧ H' = upd H a (.dT (putK kvs k v))
theorem DGet.k {H : Hp} {a : Addr} {kvs : List (Key × V)} {k : Key} (e : H a = some (.dK kvs)) : DGet H a (kV k) (valV kvs k) := .inl ⟨kvs, k, .inl e, rfl, rfl⟩
theorem DGet.t {H : Hp} {a b : Addr} {kvs : List (List Key × V)} {k : List Key} (e : H a = some (.dT kvs)) (eb : H b = some (.tup (k.map kV))) : DGet H a (.ref b) (valV kvs k) := .inr ⟨kvs, k, b, .inl e, rfl, eb, rfl⟩
theorem DPut.k {H : Hp} {a : Addr} {kvs : List (Key × V)} {k : Key} {v : V} (e : H a = some (.dK kvs)) (hl : kvs.length < sizeLine) : DPut H a (kV k) v (upd H a (.dK (putK kvs k v))) := .inl ⟨kvs, k, e, rfl, hl, rfl⟩
theorem DPut.t {H : Hp} {a b : Addr} {kvs : List (List Key × V)} {k : List Key} {v : V} (e : H a = some (.dT kvs)) (eb : H b = some (.tup (k.map kV))) (hl : kvs.length < sizeLine) :
    DPut H a (.ref b) v (upd H a (.dT (putK kvs k v))) := .inr ⟨kvs, k, b, e, rfl, eb, hl, rfl⟩


section
variable {X : Cx} {pins : List (Addr × Obj)} {σ : St} {H : Hp} {s : Shared} {a : Addr} {y v : V} {u r : Value} {o : Option V} {A : Around} {E : Value → Shared → Prop}

theorem Inv.big (I : Inv X pins σ H s) : sysModules < s.heap.objs.size := by
  have h : mainGlobals < s.heap.objs.size := (I.mod.glob.keeps I.bk).lt
  exact Nat.lt_trans (by decide) h

/-- d[y], there -/
theorem d_getItem {Q : Value → Shared → Prop} (hu : A.units + 1 < cLine) (I : Inv X pins σ H s) (g : DGet H a y (some v)) (ry : RelV y u) (h : ∀ w' s', Inv X pins σ H s' → RelV v w' → Q w' s') :
    wpAny (model X.prog X.w) A (getItem (.ref a) u) Q E s := by
  rcases g with ⟨kvs, k, e, ey, l⟩ | ⟨kvs, k, b, e, ey, eb, l⟩
  · subst ey
    obtain ⟨z, hd, vs, rel, dd⟩ := dk_rd I.hok e
    obtain ⟨w', hw, rw'⟩ := RelO.some_of (v := v) (o := valueAt vs k) (by rw [l]; exact rel.val k)
    exact wpAny_getItem_of (kV_is ry) dd.mapOf hw (h w' _ (I.tok _) rw')
  · subst ey
    cases (show u = Value.ref b from ry)
    obtain ⟨z, hd, xs, rel, dd⟩ := dt_rd I.hok e
    obtain ⟨w', hw, rw'⟩ := RelO.some_of (v := v) (o := (atKey xs k).map (·.2)) (by rw [l]; exact rel.val k)
    obtain ⟨p, hp, hp2⟩ := Option.map_eq_some_iff.mp hw
    refine wpAny_getItem_heap (tupleKind_room_in1 hu) (key_of I.hok eb) dd hp ?_
    rw [hp2]
    exact h w' _ (I.tok _) rw'
/-- y in d -/
theorem d_in {Q : Value → Shared → Prop} (hu : A.units + 1 < cLine) (I : Inv X pins σ H s) (g : DGet H a y o) (ry : RelV y u) (h : ∀ s', Inv X pins σ H s' → Q (.bool o.isSome) s') :
    wpAny (model X.prog X.w) A (compareOp .In u (.ref a)) Q E s := by
  rcases g with ⟨kvs, k, e, ey, l⟩ | ⟨kvs, k, b, e, ey, eb, l⟩
  · subst ey
    obtain ⟨z, hd, vs, rel, dd⟩ := dk_rd I.hok e
    refine wpAny_in_of (kV_is ry) hd dd.mapOf ?_
    rw [← (rel.val k).isSome_eq, ← l]
    exact h _ (I.tok _)
  · subst ey
    cases (show u = Value.ref b from ry)
    obtain ⟨z, hd, xs, rel, dd⟩ := dt_rd I.hok e
    refine wpAny_in_heap (tupleKind_room_in1 hu) (key_of I.hok eb) hd dd ?_
    have q := (rel.val k).isSome_eq
    rw [Option.isSome_map] at q
    rw [← q, ← l]
    exact h _ (I.tok _)
theorem d_notIn {Q : Value → Shared → Prop} (hu : A.units + 1 < cLine) (I : Inv X pins σ H s) (g : DGet H a y o) (ry : RelV y u) (h : ∀ s', Inv X pins σ H s' → Q (.bool (!o.isSome)) s') :
    wpAny (model X.prog X.w) A (compareOp .NotIn u (.ref a)) Q E s := by
  rcases g with ⟨kvs, k, e, ey, l⟩ | ⟨kvs, k, b, e, ey, eb, l⟩
  · subst ey
    obtain ⟨z, hd, vs, rel, dd⟩ := dk_rd I.hok e
    refine wpAny_notIn_of (kV_is ry) hd dd.mapOf ?_
    rw [← (rel.val k).isSome_eq, ← l]
    exact h _ (I.tok _)
  · subst ey
    cases (show u = Value.ref b from ry)
    obtain ⟨z, hd, xs, rel, dd⟩ := dt_rd I.hok e
    refine wpAny_notIn_heap (tupleKind_room_in1 hu) (key_of I.hok eb) hd dd ?_
    have q := (rel.val k).isSome_eq
    rw [Option.isSome_map] at q
    rw [← q, ← l]
    exact h _ (I.tok _)
/-- a dict's object is replaced -/
theorem d_write {h' : Heap} {t' : Nat} {ob : HO} (I : Inv X pins σ H s) (mu : Mut (H a)) (hs : Heap.SameBut a s.heap h') (he : ∃ q, h'.get? a = some q) (new : ObjOk X.prog X.w (upd H a ob) h' a ob) :
    Inv X pins σ (upd H a ob) { s with heap := h', toks := t' } :=
  I.write (x := a) (e := a) mu (.inl rfl) (fun b q hb z => (hs.2 b hb).trans z) he new
theorem dk_new {P : Program} {w : World} {H' : Hp} {h' : Heap} {kvs : List (Key × V)} {vs : List (Key × Value)} (z : kvs.length ≤ sizeLine) (hd : (a == sysModules) = false) (rel : KV kvs vs) (dd : h'.DictOf (mixKind P w) a vs) :
    ObjOk P w H' h' a (.dK kvs) := ⟨z, hd, vs, rel, dd⟩
/-- d[y] = v -/
theorem d_setItem {H' : Hp} {Q : Unit → Shared → Prop} (hu : A.units + 1 < cLine) (I : Inv X pins σ H s) (g : DPut H a y v H') (ry : RelV y u) (rv : RelV v r) (h : ∀ s', Inv X pins σ H' s' → Q () s') :
    wpAny (model X.prog X.w) A (setItem (.ref a) u r) Q E s := by
  rcases g with ⟨kvs, k, e, ey, l, eH⟩ | ⟨kvs, k, b, e, ey, eb, l, eH⟩
  · subst ey eH
    obtain ⟨z, hd, vs, rel, dd⟩ := dk_of I.hok e
    have hz : vs.length ≤ sizeLine := by rw [← rel.length]; exact z
    have hl : (putK kvs k v).length ≤ sizeLine := by have := length_putK kvs k v; omega
    refine wpAny_setItem_pairs (hsz := hz) (kV_is ry) dd fun h' dd' hs => h _ ?_
    have he : ∃ q, h'.get? a = some q := let ⟨q, _, _, hq, _⟩ := dd'; ⟨q, hq⟩
    exact d_write I (by rw [e]; exact True.intro) hs he (dk_new hl hd (rel.put k rv) dd')
  · subst ey eH
    cases (show u = Value.ref b from ry)
    obtain ⟨z, hd, xs, rel, dd⟩ := dt_of I.hok e
    have hz : xs.length ≤ sizeLine := by rw [← Paired.length rel]; exact z
    have hl : (putK kvs k v).length ≤ sizeLine := by have := length_putK kvs k v; omega
    refine wpAny_setItem_heap (hsz := hz) (tupleKind_room_in1 hu) (key_of I.hok eb) dd fun h' dd' hs => h _ ?_
    obtain ⟨q, es, ep, hq, h2, h3, h4, _, h5⟩ := dd'
    refine d_write I (by rw [e]; exact True.intro) hs ⟨q, hq⟩ ⟨hl, hd, _, (rel.put k eb rv).keeps fun c ys ec => ?_, q, es, ep, hq, h2, h3, h4, h5⟩
    rw [upd_ne (ne_of ec e (fun z => nomatch z))]
    exact ec
end

section
variable {X : Cx} {pins : List (Addr × Obj)} {σ : St} {H : Hp} {s : Shared} {a : Addr} {kvs : List (Key × V)} {k : Key} {u : Value} {A : Around} {E : Value → Shared → Prop}
/-- del d[k] -/
theorem d_delItem {Q : Unit → Shared → Prop} (I : Inv X pins σ H s) (e : H a = some (.dK kvs)) (ry : RelV (kV k) u) (l : (valV kvs k).isSome = true) (h : ∀ s', Inv X pins σ (upd H a (.dK (dropK kvs k))) s' → Q () s') :
    wpAny (model X.prog X.w) A (delItem (.ref a) u) Q E s := by
  obtain ⟨z, hd, vs, rel, dd⟩ := dk_of I.hok e
  refine wpAny_delItem_slot dd.typeIs (by decide) PySem.F.slot_dict_delitem
    (call_meetsIn PySem.F.slot_dict_delitem dd.typeIs PySem.F.entry_dict_delitem (PySem.F.args_dict_delitem_2 _ _) (meets_dict_delitem_pairs (mixKind X.prog X.w) a (kV_is ry)) ⟨vs, dd, by rw [← rel.length]; exact z, by rw [← (rel.val k).isSome_eq]; exact l, fun h' dd' hs => h _ ?_⟩)
  have he : ∃ q, h'.get? a = some q := let ⟨q, _, _, hq, _⟩ := dd'; ⟨q, hq⟩
  exact d_write I (by rw [e]; exact True.intro) hs he (dk_new (Nat.le_trans (dropK_le kvs k) z) hd (rel.drop k) dd')
/-- d.pop(k[, x]), there -/
theorem d_pop {v : V} {more : List Value} {Q : Value → Shared → Prop} (I : Inv X pins σ H s) (e : H a = some (.dK kvs)) (ry : RelV (kV k) u) (l : valV kvs k = some v) (hm : more = [] ∨ ∃ x, more = [x])
    (h : ∀ w' s', Inv X pins σ (upd H a (.dK (dropK kvs k))) s' → RelV v w' → Q w' s') : wpAny (model X.prog X.w) A (call (.builtin "dict.pop") (.ref a :: u :: more)) Q E s := by
  obtain ⟨z, hd, vs, rel, dd⟩ := dk_of I.hok e
  obtain ⟨w', hw, rw'⟩ := RelO.some_of (v := v) (o := valueAt vs k) (by rw [← l]; exact rel.val k)
  have hp : (keyPart u).isSome = true := by
    cases k with
    | inl i => obtain ⟨t, q⟩ := (show ∃ t, u = Value.int i t from ry); subst q; rfl
    | inr x => obtain ⟨t, q⟩ := (show ∃ t, u = Value.str x t from ry); subst q; rfl
  have ha : argsOk "dict.pop" ⟨.ref a :: u :: more, []⟩ := by
    rcases hm with q | ⟨x, q⟩
    · subst q; exact PySem.F.args_dict_pop_2 _ _
    · subst q; exact PySem.F.args_dict_pop_3 _ _ _
  refine call_meetsIn PySem.F.slot_dict_pop dd.typeIs PySem.F.entry_dict_pop ha (meets_dict_pop_there (mixKind X.prog X.w) a (kV_is ry) more hm hp)
    ⟨vs, w', dd, by rw [← rel.length]; exact z, hw, fun h' dd' hs => h w' _ ?_ rw'⟩
  have he : ∃ q, h'.get? a = some q := let ⟨q, _, _, hq, _⟩ := dd'; ⟨q, hq⟩
  exact d_write I (by rw [e]; exact True.intro) hs he (dk_new (Nat.le_trans (dropK_le kvs k) z) hd (rel.drop k) dd')
/-- d.pop(k, x), not there -/
theorem d_popD {r : Value} {Q : Value → Shared → Prop} (I : Inv X pins σ H s) (e : H a = some (.dK kvs)) (ry : RelV (kV k) u) (l : valV kvs k = none) (h : ∀ s', Inv X pins σ H s' → Q r s') :
    wpAny (model X.prog X.w) A (call (.builtin "dict.pop") [.ref a, u, r]) Q E s := by
  obtain ⟨z, hd, vs, rel, dd⟩ := dk_of I.hok e
  have hn : valueAt vs k = none := RelO.none_of (by rw [← l]; exact rel.val k)
  have hp : (keyPart u).isSome = true := by
    cases k with
    | inl i => obtain ⟨t, q⟩ := (show ∃ t, u = Value.int i t from ry); subst q; rfl
    | inr x => obtain ⟨t, q⟩ := (show ∃ t, u = Value.str x t from ry); subst q; rfl
  exact call_meetsIn PySem.F.slot_dict_pop dd.typeIs PySem.F.entry_dict_pop (PySem.F.args_dict_pop_3 _ _ _) (meets_dict_pop_default (mixKind X.prog X.w) a (kV_is ry) hd hp r) ⟨vs, dd, hn, h _ (I.tok _)⟩
/-- d.clear() -/
theorem d_clear {Q : Value → Shared → Prop} (I : Inv X pins σ H s) (e : H a = some (.dK kvs)) (h : ∀ s', Inv X pins σ (upd H a (.dK [])) s' → Q .none s') : wpAny (model X.prog X.w) A (call (.builtin "dict.clear") [.ref a]) Q E s := by
  obtain ⟨z, hd, vs, rel, dd⟩ := dk_of I.hok e
  refine call_meetsIn PySem.F.slot_dict_clear dd.typeIs PySem.F.entry_dict_clear (PySem.F.args_dict_clear_1 _) (meets_dict_clear (mixKind X.prog X.w) a) ⟨vs, dd, by rw [← rel.length]; exact z, fun h' dd' hs => h _ ?_⟩
  have he : ∃ q, h'.get? a = some q := let ⟨q, _, _, hq, _⟩ := dd'; ⟨q, hq⟩
  exact d_write (t' := s.toks) I (by rw [e]; exact True.intro) hs he (dk_new (Nat.zero_le _) hd .nil dd')
/-- len(d) -/
theorem d_len {Q : Value → Shared → Prop} (I : Inv X pins σ H s) (e : Rd H a (.dK kvs)) (h : ∀ t s', Inv X pins σ H s' → Q (.int kvs.length t) s') : wpAny (model X.prog X.w) A (call (.builtin "len") [.ref a]) Q E s := by
  obtain ⟨z, hd, vs, rel, dd⟩ := dk_rd I.hok e
  refine call_len_dict hd dd (by rw [← rel.length]; rw [sizeLine_eq] at z; omega) ?_
  rw [← rel.length]
  exact h _ _ (I.tok _)
/-- if d -/
theorem d_truth {Q : Bool → Shared → Prop} (I : Inv X pins σ H s) (e : Rd H a (.dK kvs)) (h : ∀ s', Inv X pins σ H s' → Q (!kvs.isEmpty) s') : wpAny (model X.prog X.w) A (truthy (.ref a)) Q E s := by
  obtain ⟨z, hd, vs, rel, dd⟩ := dk_rd I.hok e
  refine wpAny_truthy_dict hd dd (by rw [← rel.length]; rw [sizeLine_eq] at z; omega) ?_
  have q : kvs.isEmpty = vs.isEmpty := by cases rel <;> rfl
  rw [← q]
  exact h _ (I.tok _)
end


/-! ### readings and rules -/
/-- the element of a subscription, not a slice -/
def NoSl (i : Expr) : Prop := ∀ ov iv, subscripted i false ov iv = operate [ov, iv] (getItem ov iv)
theorem subD_of {prog : Program} {w : World} {A : Around} {E : Value → Shared → Prop} {s : Shared} {env : Env} {value slice : Expr} {pos : Pos} {T id : String} {Q : Value → Shared → Prop}
    (hl : typeLookup (.type T) "__getitem__" = pure (some (.builtin id))) (hs : NoSl slice)
    (h : wpAny (model prog w) A (eval value env) (fun o s₁ => wpAny (model prog w) A (eval slice env) (fun i s₂ => s₂.TypeIs o T ∧ wpAny (model prog w) A (getItem o i) Q E s₂) E s₁) E s) :
    wpAny (model prog w) A (eval (.Subscript value slice pos) env) Q E s := by
  refine Subscript_ (wpAny_mono h (fun o s₁ h₁ => wpAny_mono h₁ (fun i s₂ h₂ => ?_) fun _ _ x => x) fun _ _ x => x)
  obtain ⟨hT, h₂⟩ := h₂
  unfold subscriptTail
  refine wpAny_bind ?_
  rw [getitemInPython_of_ne hT.not_modules]
  refine wpAny_bind (wpAny_specialOf hT hl ?_)
  have fin : wpAny (model prog w) A (subscripted slice false o i) (fun r s₃ => wpAny (model prog w) A (letTemporaryGo value o r >>= fun _ => pure r) Q E s₃) E s₂ := by
    rw [hs o i]
    exact wpAny_operating (wpAny_mono h₂ (fun r s₃ h₃ => wpAny_bind (wpAny_letTemporaryGo (wpAny_pure h₃))) fun _ _ x => x)
  first
    | exact wpAny_pure (wpAny_bind fin)
    | exact wpAny_bind (wpAny_pure (wpAny_bind fin))
    | exact wpAny_bind fin

theorem dict_typeIs {X : Cx} {pins : List (Addr × Obj)} {σ : St} {H : Hp} {s : Shared} {a : Addr} {y : V} {o : Option V} (I : Inv X pins σ H s) (g : DGet H a y o) : s.TypeIs (.ref a) "dict" := by
  rcases g with ⟨kvs, k, e, _, _⟩ | ⟨kvs, k, b, e, _, _, _⟩
  · obtain ⟨_, _, vs, _, dd⟩ := dk_rd I.hok e
    exact dd.typeIs
  · obtain ⟨_, _, xs, _, dd⟩ := dt_rd I.hok e
    exact dd.typeIs
theorem dict_noDict {X : Cx} {pins : List (Addr × Obj)} {σ : St} {H : Hp} {s : Shared} {a : Addr} {y : V} {o : Option V} (I : Inv X pins σ H s) (g : DGet H a y o) :
    ∀ b, Value.ref a = .ref b → ∃ ob, s.heap.get? b = some ob ∧ ob.dict = none := fun b q => by
  cases q
  rcases g with ⟨kvs, k, e, _, _⟩ | ⟨kvs, k, b, e, _, _, _⟩
  · obtain ⟨_, _, vs, _, ob, _, _, h1, h2, _⟩ := dk_rd I.hok e
    exact ⟨ob, h1, h2.2.1⟩
  · obtain ⟨_, _, xs, _, ob, _, _, h1, h2, _⟩ := dt_rd I.hok e
    exact ⟨ob, h1, h2.2.1⟩

/-- d[y] -/
def tDGet (td ty : TE) : TE := fun σ H Q => td σ H fun x H1 => ty σ H1 fun y H2 => ∃ a v, x = .ref a ∧ DGet H2 a y (some v) ∧ Q v H2
/-- y in d, y not in d -/
def tDIn (ty td : TE) : TE := fun σ H Q => ty σ H fun y H1 => td σ H1 fun x H2 => ∃ a o, x = .ref a ∧ DGet H2 a y o ∧ Q (.bl o.isSome) H2
def tDNotIn (ty td : TE) : TE := fun σ H Q => ty σ H fun y H1 => td σ H1 fun x H2 => ∃ a o, x = .ref a ∧ DGet H2 a y o ∧ Q (.bl (!o.isSome)) H2
/-- d[y] = v -/
def sDPut (td ty tv : TE) : TS := fun D σ H => tv σ H fun v H1 => td σ H1 fun x H2 => ty σ H2 fun y H3 => ∃ a H4, x = .ref a ∧ DPut H3 a y v H4 ∧ D.nx σ H4
/-- d[y] op= v -/
def sDAug (td ty tv : TE) (rd : V → V → Hp → VK → Prop) : TS := fun D σ H => td σ H fun x H1 => ty σ H1 fun y H2 => ∃ a v, x = .ref a ∧ DGet H2 a y (some v) ∧
  tv σ H2 fun y2 H3 => rd v y2 H3 fun z H4 => ∃ H5, DPut H4 a y z H5 ∧ D.nx σ H5
/-- del d[y] -/
def sDDel (td ty : TE) : TS := fun D σ H => td σ H fun x H1 => ty σ H1 fun y H2 => ∃ a kvs k, x = .ref a ∧ H2 a = some (.dK kvs) ∧ y = kV k ∧ (valV kvs k).isSome = true ∧ D.nx σ (upd H2 a (.dK (dropK kvs k)))

section
variable {X : Cx} {o i e value : Expr} {pos pos' tpos : Pos} {td ty tv : TE}
theorem pe_dget (hu : X.A.units + 1 < cLine) (ho : PE X o td) (hi : PE X i ty) (hs : NoSl i) : PE X (.Subscript o i pos) (tDGet td ty) := by
  intro pins s σ H Q I h
  refine subD_of PySem.F.slot_dict_getitem.lookup hs (thn (ho pins s σ H _ I h) fun u s1 ⟨x, H1, I1, rx, q1⟩ => thn (hi pins s1 σ H1 _ I1 q1) fun iv s2 ⟨y, H2, I2, ry, a, v, ex, g, q2⟩ => ?_)
  subst ex
  obtain rfl : u = Value.ref a := rx
  exact ⟨dict_typeIs I2 g, d_getItem hu I2 g ry fun w' s3 I3 rw' => ⟨v, H2, I3, rw', q2⟩⟩
theorem pc_din (hu : X.A.units + 1 < cLine) (hi : PE X i ty) (ho : PE X o td) : PC X .In i o (tDIn ty td) := by
  intro pins s σ H Q I h
  refine thn (hi pins s σ H _ I h) fun iv s1 ⟨y, H1, I1, ry, q1⟩ => thn (ho pins s1 σ H1 _ I1 q1) fun u s2 ⟨x, H2, I2, rx, a, ov, ex, g, q2⟩ => ?_
  subst ex
  obtain rfl : u = Value.ref a := rx
  exact d_in hu I2 g ry fun s3 I3 => ⟨.bl ov.isSome, H2, I3, rfl, q2⟩
theorem pc_dnotin (hu : X.A.units + 1 < cLine) (hi : PE X i ty) (ho : PE X o td) : PC X .NotIn i o (tDNotIn ty td) := by
  intro pins s σ H Q I h
  refine thn (hi pins s σ H _ I h) fun iv s1 ⟨y, H1, I1, ry, q1⟩ => thn (ho pins s1 σ H1 _ I1 q1) fun u s2 ⟨x, H2, I2, rx, a, ov, ex, g, q2⟩ => ?_
  subst ex
  obtain rfl : u = Value.ref a := rx
  exact d_notIn hu I2 g ry fun s3 I3 => ⟨.bl (!ov.isSome), H2, I3, rfl, q2⟩
theorem ps_dput (hu : X.A.units + 1 < cLine) (ho : PE X o td) (hi : PE X i ty) (hv : PE X value tv) (hs : swapsWith value (some (.Subscript o i pos')) pos.line X.env = pure false) :
    PS X (.Assign [.Subscript o i pos'] value pos) (sDPut td ty tv) := by
  intro pins s σ H D I h
  refine wpAny_Assign_Subscript (thn (hv pins s σ H _ I h) fun r s1 ⟨v, H1, I1, rv, q1⟩ => thn (ho pins s1 σ H1 _ I1 q1) fun u s2 ⟨x, H2, I2, rx, q2⟩ => thn (hi pins s2 σ H2 _ I2 q2) fun iv s3 ⟨y, H3, I3, ry, a, H4, ex, g, q3⟩ => ?_) hs
  subst ex
  obtain rfl : u = Value.ref a := rx
  exact d_setItem hu I3 g ry rv fun s4 I4 => ⟨σ, H4, I4, q3⟩
theorem ps_daug {op : Operator} {rd : V → V → Hp → VK → Prop} (hu : X.A.units + 1 < cLine) (ho : PE X o td) (hi : PE X i ty) (hv : PE X value tv) (hop : InOp X op rd)
    (ha : ∀ ov iv new, augStore i ov iv new = (do holding [new, ov, iv] (setItem ov iv new); release [new, ov, iv] []; pure .next)) : PS X (.AugAssign (.Subscript o i tpos) op value pos) (sDAug td ty tv rd) := by
  intro pins s σ H D I h
  refine wpAny_AugAssign_SubscriptAny (thn (ho pins s σ H _ I h) fun u s1 ⟨x, H1, I1, rx, q1⟩ => thn (hi pins s1 σ H1 _ I1 q1) fun iv s2 ⟨y, H2, I2, ry, a, v, ex, g, q2⟩ => ?_) ha
  subst ex
  obtain rfl : u = Value.ref a := rx
  refine d_getItem hu I2 g ry fun w' s3 I3 rw' => thn (hv pins s3 σ H2 _ I3 q2) fun w2 s4 ⟨y2, H3, I4, ry2, q3⟩ => thn (hop pins s4 σ H3 v y2 w' w2 _ I4 rw' ry2 q3) fun w3 s5 ⟨z, H4, I5, rz, H5, g5, q4⟩ => ?_
  exact d_setItem hu I5 g5 ry rz fun s6 I6 => ⟨σ, H5, I6, q4⟩
theorem ps_ddel (ho : PE X o td) (hi : PE X i ty) : PS X (.Delete [.Subscript o i tpos] pos) (sDDel td ty) := by
  intro pins s σ H D I h
  refine wpAny_Delete (wpAny_deleteEach_cons (wpAny_delete_Subscript (thn (ho pins s σ H _ I h) fun u s1 ⟨x, H1, I1, rx, q1⟩ => thn (hi pins s1 σ H1 _ I1 q1) fun iv s2 ⟨y, H2, I2, ry, a, kvs, k, ex, e, ey, l, q2⟩ => ?_)))
  subst ex ey
  obtain rfl : u = Value.ref a := rx
  exact d_delItem I2 e ry l fun s3 I3 => wpAny_deleteEach_nil ⟨σ, _, I3, q2⟩
end


/-! ### displays -/
theorem dk_empty {P : Program} {w : World} {H : Hp} (h : Heap) (hb : sysModules < h.objs.size) : ObjOk P w H (h.push { cls := .type "dict", data := .dict #[] }) h.objs.size (.dK []) :=
  ⟨Nat.zero_le _, beq_eq_false_iff_ne.mpr (Ne.symm (Nat.ne_of_lt hb)), [], .nil, Heap.DictOf.new h⟩
theorem dt_empty {P : Program} {w : World} {H : Hp} (h : Heap) (hb : sysModules < h.objs.size) : ObjOk P w H (h.push { cls := .type "dict", data := .dict #[] }) h.objs.size (.dT []) :=
  ⟨Nat.zero_le _, beq_eq_false_iff_ne.mpr (Ne.symm (Nat.ne_of_lt hb)), [], .nil, _, #[], 0, Heap.get?_push_size _ rfl, ⟨rfl, rfl, rfl⟩, rfl, rfl, List.nodup_nil⟩
/-- {}, to be a dict of the kind that is wanted -/
def tDNewK : TE := fun _ H Q => ∀ p, H p = none → Q (.ref p) (upd H p (.dK []))
def tDNewT : TE := fun _ H Q => ∀ p, H p = none → Q (.ref p) (upd H p (.dT []))
section
variable {X : Cx} {pos : Pos}
theorem pe_dnewK : PE X (.Dict [] [] pos) tDNewK := fun pins s σ H Q I h =>
  wpAny_Dict_empty ⟨.ref s.heap.objs.size, _, I.laid (a := s.heap.objs.size) (o := .dK []) (t' := s.toks) (fun _ _ q => Heap.get?_push_of_some _ q) (Nat.le_refl _) (dk_empty s.heap I.big), rfl, h _ (I.hok.fresh (Nat.le_refl _))⟩
theorem pe_dnewT : PE X (.Dict [] [] pos) tDNewT := fun pins s σ H Q I h =>
  wpAny_Dict_empty ⟨.ref s.heap.objs.size, _, I.laid (a := s.heap.objs.size) (o := .dT []) (t' := s.toks) (fun _ _ q => Heap.get?_push_of_some _ q) (Nat.le_refl _) (dt_empty s.heap I.big), rfl, h _ (I.hok.fresh (Nat.le_refl _))⟩
end

/-- the pairs of a display, from the left -/
def tPairs : List (TE × TE) → St → Hp → (List (V × V) → Hp → Prop) → Prop
  | [], _, H, Q => Q [] H
  | (tk, tv) :: r, σ, H, Q => tk σ H fun x H1 => tv σ H1 fun y H2 => tPairs r σ H2 fun ps H3 => Q ((x, y) :: ps) H3
abbrev VV : List (V × V) → List (Value × Value) → Prop := Paired fun p q => RelV p.1 q.1 ∧ RelV p.2 q.2
def PPs (X : Cx) (pos : Pos) (keys : List (Option Expr)) (values : List Expr) (trs : List (TE × TE)) : Prop :=
  ∀ (pins : List (Addr × Obj)) (s : Shared) (σ : St) (H : Hp) (Q : List (V × V) → Hp → Prop), Inv X pins σ H s → tPairs trs σ H Q →
    wpAny (model X.prog X.w) X.A (evalPairs (pairTrees keys values X.env pos)) (fun vs s' => ∃ ps H', Inv X pins σ H' s' ∧ VV ps vs ∧ Q ps H') X.xe s
theorem pps_nil {X : Cx} {pos : Pos} : PPs X pos [] [] [] := fun pins s σ H Q I h => pairTrees_nil_walk ⟨[], H, I, .nil, h⟩
theorem pps_cons {X : Cx} {pos : Pos} {k v : Expr} {ks : List (Option Expr)} {vs : List Expr} {tk tv : TE} {trs : List (TE × TE)} (hk : PE X k tk) (hv : PE X v tv) (hr : PPs X pos ks vs trs) :
    PPs X pos (some k :: ks) (v :: vs) ((tk, tv) :: trs) := fun pins s σ H Q I h =>
  pairTrees_cons_walk (thn (hk pins s σ H _ I h) fun u s1 ⟨x, H1, I1, rx, q1⟩ => thn (hv pins s1 σ H1 _ I1 q1) fun w2 s2 ⟨y, H2, I2, ry, q2⟩ =>
    thn (hr pins s2 σ H2 _ I2 q2) fun ws s3 ⟨ps, H3, I3, rel, q3⟩ => ⟨(x, y) :: ps, H3, I3, .cons ⟨rx, ry⟩ rel, q3⟩)

def mergeK (kvs more : List (Key × V)) : List (Key × V) := more.foldl (fun acc kv => putK acc kv.1 kv.2) kvs
theorem KV.merge : ∀ {more : List (Key × V)} {rs : List (Key × Value)} {kvs : List (Key × V)} {vs : List (Key × Value)}, KV more rs → KV kvs vs → KV (mergeK kvs more) (merged vs rs) := by
  intro more rs kvs vs r
  unfold KV at r
  induction r generalizing kvs vs with
  | nil => intro q; exact q
  | @cons p q ps qs h t ih =>
    intro r0
    have e : KV (putK kvs p.1 p.2) (stored vs q.1 q.2) := by
      have := r0.put p.1 h.2
      rw [← h.1]; exact this
    exact ih e
theorem length_mergeK : ∀ (more kvs : List (Key × V)), (mergeK kvs more).length ≤ kvs.length + more.length
  | [], kvs => by show kvs.length ≤ kvs.length + 0; omega
  | p :: r, kvs => by
    have h1 := length_mergeK r (putK kvs p.1 p.2)
    have h2 := length_putK kvs p.1 p.2
    show (mergeK (putK kvs p.1 p.2) r).length ≤ _
    rw [List.length_cons]; omega
theorem carries_of {P : Program} {w : World} : ∀ {kvs : List (Key × V)} {ws : List (Value × Value)}, VV (kvs.map fun kv => (kV kv.1, kv.2)) ws → ∃ rs, Carries (mixKind P w) ws rs ∧ KV kvs rs
  | [], _, r => by rw [List.map_nil] at r; cases r; exact ⟨[], True.intro, .nil⟩
  | p :: kvs, _, r => by
    rw [List.map_cons] at r
    cases r with
    | @cons a b as bs h t =>
      obtain ⟨rs, c, q⟩ := carries_of (P := P) (w := w) t
      obtain ⟨b1, b2⟩ := b
      exact ⟨(p.1, b2) :: rs, ⟨kV_is h.1, rfl, c⟩, .cons ⟨rfl, h.2⟩ q⟩
/-- {k: v, ..} with keys ints and texts; the new dict stands empty while the pairs are made -/
def tDisp (trs : List (TE × TE)) : TE := fun σ H Q => ∀ p, H p = none → tPairs trs σ (upd H p (.dK [])) fun ps H2 => H2 p = some (.dK []) ∧ ∃ kvs : List (Key × V), ps = kvs.map (fun kv => (kV kv.1, kv.2)) ∧ kvs.length ≤ 15 ∧ Q (.ref p) (upd H2 p (.dK (mergeK [] kvs)))
theorem pe_disp {X : Cx} {pos : Pos} {keys : List (Option Expr)} {values : List Expr} {trs : List (TE × TE)} (h : PPs X pos keys values trs) (hall : keys.all (·.isSome) = true) (hl : keys.length = values.length) (h0 : keys ≠ [])
    (h15 : keys.length ≤ 15) : PE X (.Dict keys values pos) (tDisp trs) := by
  intro pins s σ H Q I q
  have hn := I.hok.fresh (Nat.le_refl s.heap.objs.size)
  have I1 := I.laid (a := s.heap.objs.size) (o := .dK []) (h' := s.heap.push { cls := .type "dict", data := .dict #[] }) (t' := s.toks) (fun _ _ q => Heap.get?_push_of_some _ q) (Nat.le_refl _) (dk_empty s.heap I.big)
  refine wpAny_Dict_walk (knd := mixKind X.prog X.w) hall hl h0 h15 (thn (h pins _ σ _ _ I1 (q _ hn)) fun ws s2 ⟨ps, H2, I2, rel, e, kvs, ep, lk, q2⟩ => ?_)
  subst ep
  obtain ⟨rs, c, rk⟩ := carries_of (P := X.prog) (w := X.w) rel
  obtain ⟨z, hd, vs0, r0, dd⟩ := dk_of I2.hok e
  cases r0
  refine ⟨rs, c, dd, fun h' dd' hs => ⟨.ref s.heap.objs.size, _, ?_, rfl, q2⟩⟩
  have hz : (mergeK [] kvs).length ≤ sizeLine := by
    have h1 := length_mergeK kvs []
    rw [List.length_nil] at h1
    rw [sizeLine_eq]; omega
  have he : ∃ q, h'.get? s.heap.objs.size = some q := let ⟨q, _, _, hq, _⟩ := dd'; ⟨q, hq⟩
  exact d_write I2 (by rw [e]; exact True.intro) hs he (dk_new hz hd (rk.merge .nil) dd')


/-! ### methods -/
/-- a method call o.m(e) of a built-in, with one argument: what must be seen of the text -/
structure M1 (X : Cx) (o : Expr) (m : Str) (apos : Pos) (e : Expr) (cpos : Pos) : Prop where
  base : attributeBase o m X.env (eval o X.env) = eval o X.env
  few : ((backTo cpos (starEach [e] X.env)).all (fun x => !x.1) && (backToKw cpos (keywordEach [] X.env)).all (fun x => x.1.isSome)
    && decide (([e] : List Expr).length + ([] : List Keyword).length + (if ([] : List Keyword).isEmpty then 0 else 1) < 30)) = true
  line : (apos.endLine == cpos.line) = true
  trees : backTo cpos (starEach [e] X.env) = [(false, eval e X.env)]
structure M2 (X : Cx) (o : Expr) (m : Str) (apos : Pos) (e f : Expr) (cpos : Pos) : Prop where
  base : attributeBase o m X.env (eval o X.env) = eval o X.env
  few : ((backTo cpos (starEach [e, f] X.env)).all (fun x => !x.1) && (backToKw cpos (keywordEach [] X.env)).all (fun x => x.1.isSome)
    && decide (([e, f] : List Expr).length + ([] : List Keyword).length + (if ([] : List Keyword).isEmpty then 0 else 1) < 30)) = true
  line : (apos.endLine == cpos.line) = true
  trees : backTo cpos (starEach [e, f] X.env) = [(false, eval e X.env), (false, eval f X.env)]

/-- a is a dict, whatever its keys -/
def IsD (H : Hp) (a : Addr) : Prop := (∃ kvs, Rd H a (.dK kvs)) ∨ ∃ kvs, Rd H a (.dT kvs)
theorem isD_at {X : Cx} {pins : List (Addr × Obj)} {σ : St} {H : Hp} {s : Shared} {a : Addr} (I : Inv X pins σ H s) (d : IsD H a) :
    s.TypeIs (.ref a) "dict" ∧ (∀ b, Value.ref a = .ref b → ∃ ob, s.heap.get? b = some ob ∧ ob.dict = none) ∧ (a == sysModules) = false := by
  rcases d with ⟨kvs, e⟩ | ⟨kvs, e⟩
  · obtain ⟨_, hd, vs, _, dd⟩ := dk_rd I.hok e
    refine ⟨dd.typeIs, fun b q => ?_, hd⟩
    cases q
    obtain ⟨ob, _, _, h1, h2, _⟩ := dd
    exact ⟨ob, h1, h2.2.1⟩
  · obtain ⟨_, hd, xs, _, dd⟩ := dt_rd I.hok e
    refine ⟨dd.typeIs, fun b q => ?_, hd⟩
    cases q
    obtain ⟨ob, _, _, h1, h2, _⟩ := dd
    exact ⟨ob, h1, h2.2.1⟩

section
variable {X : Cx} {pins : List (Addr × Obj)} {σ : St} {H : Hp} {s : Shared} {a : Addr} {y d : V} {u r : Value} {o : Option V} {A : Around} {E : Value → Shared → Prop}
/-- d.get(y) -/
theorem d_get1 {Q : Value → Shared → Prop} (hu : A.units + 1 < cLine) (I : Inv X pins σ H s) (g : DGet H a y o) (ry : RelV y u) (h : ∀ w' s', Inv X pins σ H s' → RelV (o.getD .non) w' → Q w' s') :
    wpAny (model X.prog X.w) A (call (.builtin "dict.get") [.ref a, u]) Q E s := by
  rcases g with ⟨kvs, k, e, ey, l⟩ | ⟨kvs, k, b, e, ey, eb, l⟩
  · subst ey
    obtain ⟨z, hd, vs, rel, dd⟩ := dk_rd I.hok e
    refine call_meetsIn PySem.F.slot_dict_get dd.typeIs PySem.F.entry_dict_get (PySem.F.args_dict_get_2 _ _) (meets_dict_get (mixKind X.prog X.w) a (kV_is ry) hd) ⟨_, dd.mapOf, h _ _ (I.tok _) ?_⟩
    rw [l]
    exact (rel.val k).getD rfl
  · subst ey
    cases (show u = Value.ref b from ry)
    obtain ⟨z, hd, xs, rel, dd⟩ := dt_rd I.hok e
    refine call_meetsIn PySem.F.slot_dict_get dd.typeIs PySem.F.entry_dict_get (PySem.F.args_dict_get_2 _ _) (meetsH_dict_get (tupleKind (mixKind X.prog X.w)) a b hd) ⟨tupleKind_room_in1 hu, k, xs, key_of I.hok eb, dd, h _ _ (I.tok _) ?_⟩
    rw [l]
    exact (rel.val k).getD rfl
/-- d.get(y, x) -/
theorem d_get2 {Q : Value → Shared → Prop} (hu : A.units + 1 < cLine) (I : Inv X pins σ H s) (g : DGet H a y o) (ry : RelV y u) (rd : RelV d r) (h : ∀ w' s', Inv X pins σ H s' → RelV (o.getD d) w' → Q w' s') :
    wpAny (model X.prog X.w) A (call (.builtin "dict.get") [.ref a, u, r]) Q E s := by
  rcases g with ⟨kvs, k, e, ey, l⟩ | ⟨kvs, k, b, e, ey, eb, l⟩
  · subst ey
    obtain ⟨z, hd, vs, rel, dd⟩ := dk_rd I.hok e
    refine call_meetsIn PySem.F.slot_dict_get dd.typeIs PySem.F.entry_dict_get (PySem.F.args_dict_get_3 _ _ _) (meets_dict_get_default (mixKind X.prog X.w) a (kV_is ry) hd r) ⟨_, dd.mapOf, h _ _ (I.tok _) ?_⟩
    rw [l]
    exact (rel.val k).getD rd
  · subst ey
    cases (show u = Value.ref b from ry)
    obtain ⟨z, hd, xs, rel, dd⟩ := dt_rd I.hok e
    refine call_meetsIn PySem.F.slot_dict_get dd.typeIs PySem.F.entry_dict_get (PySem.F.args_dict_get_3 _ _ _) (meetsH_dict_get_default (tupleKind (mixKind X.prog X.w)) a b hd r) ⟨tupleKind_room_in1 hu, k, xs, key_of I.hok eb, dd, h _ _ (I.tok _) ?_⟩
    rw [l]
    exact (rel.val k).getD rd
end

def tDGet1 (td ty : TE) : TE := fun σ H Q => td σ H fun x H1 => ∃ a, x = .ref a ∧ IsD H1 a ∧ ty σ H1 fun y H2 => ∃ o, DGet H2 a y o ∧ Q (o.getD .non) H2
def tDGet2 (td ty tx : TE) : TE := fun σ H Q => td σ H fun x H1 => ∃ a, x = .ref a ∧ IsD H1 a ∧ ty σ H1 fun y H2 => tx σ H2 fun z H3 => ∃ o, DGet H3 a y o ∧ Q (o.getD z) H3
/-- d.pop(k): there; d.pop(k, x): there or not -/
def tDPop1 (td ty : TE) : TE := fun σ H Q => td σ H fun x H1 => ∃ a, x = .ref a ∧ IsD H1 a ∧ ty σ H1 fun y H2 => ∃ kvs k v, H2 a = some (.dK kvs) ∧ y = kV k ∧ valV kvs k = some v ∧ Q v (upd H2 a (.dK (dropK kvs k)))
def tDPop2 (td ty tx : TE) : TE := fun σ H Q => td σ H fun x H1 => ∃ a, x = .ref a ∧ IsD H1 a ∧ ty σ H1 fun y H2 => tx σ H2 fun z H3 => ∃ kvs k, H3 a = some (.dK kvs) ∧ y = kV k ∧
  (∀ v, valV kvs k = some v → Q v (upd H3 a (.dK (dropK kvs k)))) ∧ (valV kvs k = none → Q z H3)
section
variable {X : Cx} {o e f : Expr} {apos cpos : Pos} {td ty tx : TE}
theorem pe_dget1 (hu : X.A.units + 1 < cLine) (ho : PE X o td) (he : PE X e ty) (m : M1 X o "get" apos e cpos) : PE X (.Call (.Attribute o "get" apos) [e] [] cpos) (tDGet1 td ty) := by
  intro pins s σ H Q I h
  refine wpAny_Call_method m.base m.few m.line PySem.F.plainAttrs_dict PySem.F.slot_dict_get PySem.F.type_dict_get (thn (ho pins s σ H _ I h) fun u s1 ⟨x, H1, I1, rx, a, ex, d, q1⟩ => ?_)
  subst ex
  obtain rfl : u = Value.ref a := rx
  obtain ⟨t1, t2, _⟩ := isD_at I1 d
  refine ⟨t1, t2, ?_⟩
  rw [m.trees]
  refine Calls.callWith_builtin rfl (Calls.evalArgs_plain (Calls.spliced_cons (thn (he pins s1 σ H1 _ I1 q1) fun iv s2 ⟨y, H2, I2, ry, ov, g, q2⟩ => Calls.spliced_nil ?_)))
  exact d_get1 hu I2 g ry fun w' s3 I3 rw' => ⟨_, H2, I3, rw', q2⟩
theorem pe_dget2 (hu : X.A.units + 1 < cLine) (ho : PE X o td) (he : PE X e ty) (hf : PE X f tx) (m : M2 X o "get" apos e f cpos) : PE X (.Call (.Attribute o "get" apos) [e, f] [] cpos) (tDGet2 td ty tx) := by
  intro pins s σ H Q I h
  refine wpAny_Call_method m.base m.few m.line PySem.F.plainAttrs_dict PySem.F.slot_dict_get PySem.F.type_dict_get (thn (ho pins s σ H _ I h) fun u s1 ⟨x, H1, I1, rx, a, ex, d, q1⟩ => ?_)
  subst ex
  obtain rfl : u = Value.ref a := rx
  obtain ⟨t1, t2, _⟩ := isD_at I1 d
  refine ⟨t1, t2, ?_⟩
  rw [m.trees]
  refine Calls.callWith_builtin rfl (Calls.evalArgs_plain (Calls.spliced_cons (thn (he pins s1 σ H1 _ I1 q1) fun iv s2 ⟨y, H2, I2, ry, q2⟩ =>
    Calls.spliced_cons (thn (hf pins s2 σ H2 _ I2 q2) fun fv s3 ⟨z, H3, I3, rz, ov, g, q3⟩ => Calls.spliced_nil ?_))))
  exact d_get2 hu I3 g ry rz fun w' s4 I4 rw' => ⟨_, H3, I4, rw', q3⟩
theorem pe_dpop1 (ho : PE X o td) (he : PE X e ty) (m : M1 X o "pop" apos e cpos) : PE X (.Call (.Attribute o "pop" apos) [e] [] cpos) (tDPop1 td ty) := by
  intro pins s σ H Q I h
  refine wpAny_Call_method m.base m.few m.line PySem.F.plainAttrs_dict PySem.F.slot_dict_pop PySem.F.type_dict_pop (thn (ho pins s σ H _ I h) fun u s1 ⟨x, H1, I1, rx, a, ex, d, q1⟩ => ?_)
  subst ex
  obtain rfl : u = Value.ref a := rx
  obtain ⟨t1, t2, _⟩ := isD_at I1 d
  refine ⟨t1, t2, ?_⟩
  rw [m.trees]
  refine Calls.callWith_builtin rfl (Calls.evalArgs_plain (Calls.spliced_cons (thn (he pins s1 σ H1 _ I1 q1) fun iv s2 ⟨y, H2, I2, ry, kvs, k, v, ea, ey, l, q2⟩ => Calls.spliced_nil ?_)))
  subst ey
  exact d_pop I2 ea ry l (.inl rfl) fun w' s3 I3 rw' => ⟨v, _, I3, rw', q2⟩
theorem pe_dpop2 (ho : PE X o td) (he : PE X e ty) (hf : PE X f tx) (m : M2 X o "pop" apos e f cpos) : PE X (.Call (.Attribute o "pop" apos) [e, f] [] cpos) (tDPop2 td ty tx) := by
  intro pins s σ H Q I h
  refine wpAny_Call_method m.base m.few m.line PySem.F.plainAttrs_dict PySem.F.slot_dict_pop PySem.F.type_dict_pop (thn (ho pins s σ H _ I h) fun u s1 ⟨x, H1, I1, rx, a, ex, d, q1⟩ => ?_)
  subst ex
  obtain rfl : u = Value.ref a := rx
  obtain ⟨t1, t2, _⟩ := isD_at I1 d
  refine ⟨t1, t2, ?_⟩
  rw [m.trees]
  refine Calls.callWith_builtin rfl (Calls.evalArgs_plain (Calls.spliced_cons (thn (he pins s1 σ H1 _ I1 q1) fun iv s2 ⟨y, H2, I2, ry, q2⟩ =>
    Calls.spliced_cons (thn (hf pins s2 σ H2 _ I2 q2) fun fv s3 ⟨z, H3, I3, rz, kvs, k, ea, ey, q3, q4⟩ => Calls.spliced_nil ?_))))
  subst ey
  cases l : valV kvs k with
  | some v => exact d_pop I3 ea ry l (.inr ⟨fv, rfl⟩) fun w' s4 I4 rw' => ⟨v, _, I4, rw', q3 v l⟩
  | none => exact d_popD I3 ea ry l fun s4 I4 => ⟨z, H3, I4, rz, q4 l⟩
end

/-! ### dict(d): a copy -/
section
variable {X : Cx} {pins : List (Addr × Obj)} {σ : St} {H : Hp} {s : Shared} {a : Addr} {kvs : List (Key × V)} {A : Around} {E : Value → Shared → Prop}
theorem d_copyOf {Q : Value → Shared → Prop} (I : Inv X pins σ H s) (e : Rd H a (.dK kvs)) (h : ∀ p s', H p = none → Inv X pins σ (upd H p (.dK kvs)) s' → Q (.ref p) s') : wpAny (model X.prog X.w) A (call (.type "dict") [.ref a]) Q E s := by
  obtain ⟨z, hd, vs, rel, dd⟩ := dk_rd I.hok e
  refine kt_call_dict hd dd (by rw [← rel.length]; exact z) fun h' dd' hs => ?_
  refine h _ _ (I.hok.fresh (Nat.le_refl _)) (I.laid (a := s.heap.objs.size) (o := .dK kvs) (t' := s.toks) (fun b q hq => ?_) (Nat.le_refl _) (dk_new z (beq_eq_false_iff_ne.mpr (Ne.symm (Nat.ne_of_lt I.big))) rel dd'))
  exact (hs.2 b (Nat.ne_of_lt (Heap.lt_size hq))).trans (Heap.get?_push_of_some _ hq)
end


section
variable {X : Cx} {pins : List (Addr × Obj)} {σ : St} {H : Hp} {s : Shared} {a : Addr} {y : V} {u : Value} {A : Around} {E : Value → Shared → Prop}
/-- d[y], not there: a KeyError -/
theorem d_missing {Q : Value → Shared → Prop} (hu : A.units + 1 < cLine) (hh : A.handled = none) (I : Inv X pins σ H s) (g : DGet H a y none) (ry : RelV y u)
    (h : ∀ h' e t', Heap.NewExc s.heap h' e "KeyError" → E (.ref e) { s with heap := h', toks := t' }) : wpAny (model X.prog X.w) A (getItem (.ref a) u) Q E s := by
  rcases g with ⟨kvs, k, e, ey, l⟩ | ⟨kvs, k, b, e, ey, eb, l⟩
  · subst ey
    obtain ⟨z, hd, vs, rel, dd⟩ := dk_rd I.hok e
    have hn : valueAt vs k = none := RelO.none_of (by rw [l]; exact rel.val k)
    exact wpAny_getItem_missing_of (kV_is ry) hd hh dd.mapOf hn fun h' ex ne => h h' ex _ ne
  · subst ey
    cases (show u = Value.ref b from ry)
    obtain ⟨z, hd, xs, rel, dd⟩ := dt_rd I.hok e
    have hn : (atKey xs k).map (·.2) = none := RelO.none_of (by rw [l]; exact rel.val k)
    exact wpAny_getItem_missing_heap (tupleKind_room_in1 hu) (key_of I.hok eb) hd hh dd (Option.map_eq_none_iff.mp hn) fun h' ex ne => h h' ex _ ne
end
end L2
end
section
set_option linter.all false
namespace D
open PySem

/-- a Python value as a tree -/
abbrev T := PyData
/-- small enough to be compared -/
def okT (a : T) : Bool := a.canLay0 && decide (a.depth ≤ 60)
def okL (as : List T) : Bool := PyData.canLayAll0 as && decide (PyData.depthAll as ≤ 60)

abbrev Key := Sum Int Str
/-- what a local name holds: a value that nobody changes, or a list, a dict of this frame's own -/
inductive Sl where
  | imm (t : T) | own (ts : List T) | dic (kvs : List (Key × T))
abbrev Ev := List (Option Sl)
inductive Out where
  | nx (ε : Ev) | rt (t : T) | bk (ε : Ev) | ct (ε : Ev)
abbrev Fe := Ev → Option T
abbrev Ft := Ev → Option Bool
abbrev Fs := Ev → Option Out
abbrev Fi := Ev → Option (List T)
abbrev Fg := T → Ev → Option Ev

def big : Nat := 16777216

/-! ### operations on values -/
def oAdd : T → T → Option T
  | .int i, .int j => some (.int (i + j))
  | .str x, .str y => if x.length + y.length ≤ big then some (.str (x ++ y)) else none
  | .tuple xs, .tuple ys => if xs.length + ys.length ≤ big then some (.tuple (xs ++ ys)) else none
  | .list xs, .list ys => if xs.length + ys.length ≤ big then some (.list (xs ++ ys)) else none
  | _, _ => none
def oSub : T → T → Option T
  | .int i, .int j => some (.int (i - j))
  | _, _ => none
def mulOk (i j : Int) : Bool := (decide (-(2 ^ 64) < i) && decide (i < 2 ^ 64)) || (decide (-(2 ^ 64) < j) && decide (j < 2 ^ 64))
def oMul : T → T → Option T
  | .int i, .int j => if mulOk i j then some (.int (i * j)) else none
  | _, _ => none
def oDiv : T → T → Option T
  | .int i, .int j => if 0 < j ∧ j < 1073741824 then some (.int (i / j)) else none
  | _, _ => none
def oMod : T → T → Option T
  | .int i, .int j => if 0 < j then some (.int (i % j)) else none
  | _, _ => none
def oNeg : T → Option T
  | .int i => some (.int (-i))
  | _ => none
def ixOf (n : Nat) (i : Int) : Option Nat := if 0 ≤ i then (if i < n then some i.toNat else none) else if -(n : Int) ≤ i then some (i + n).toNat else none
def atZ {α : Type} (xs : List α) (i : Int) : Option α := (ixOf xs.length i).bind fun j => xs[j]?
def oIx : T → T → Option T
  | .tuple xs, .int i => atZ xs i
  | .list xs, .int i => atZ xs i
  | .str x, .int i => if x.length ≤ big then (atZ x.cps.toList i).map fun c => .str ⟨#[c]⟩ else none
  | _, _ => none
def oEq (a b : T) : Option T := if okT a && okT b then some (.bool (PyData.eqv a b)) else none
def oNe (a b : T) : Option T := if okT a && okT b then some (.bool (!PyData.eqv a b)) else none
def oIsN (a : T) : Option T := some (.bool (match a with | .none => true | _ => false))
def oNotN (a : T) : Option T := some (.bool (match a with | .none => false | _ => true))
def strLt (x y : Str) : Bool := decide (x.cps.toList < y.cps.toList)
def oLt : T → T → Option T
  | .int i, .int j => some (.bool (decide (i < j)))
  | .str x, .str y => some (.bool (strLt x y))
  | _, _ => none
def oLe : T → T → Option T
  | .int i, .int j => some (.bool (decide (i ≤ j)))
  | .str x, .str y => some (.bool (!strLt y x))
  | _, _ => none
def oGt : T → T → Option T
  | .int i, .int j => some (.bool (decide (j < i)))
  | .str x, .str y => some (.bool (strLt y x))
  | _, _ => none
def oGe : T → T → Option T
  | .int i, .int j => some (.bool (decide (j ≤ i)))
  | .str x, .str y => some (.bool (!strLt x y))
  | _, _ => none
def hasT (x : T) (ts : List T) : Bool := ts.any fun y => PyData.eqv y x
def oIn (neg : Bool) : T → T → Option T
  | x, .tuple ys => if okT x && okL ys then some (.bool (if neg then !hasT x ys else hasT x ys)) else none
  | x, .list ys => if okT x && okL ys then some (.bool (if neg then !hasT x ys else hasT x ys)) else none
  | _, _ => none
def oLen : List T → Option T
  | [.tuple xs] => some (.int xs.length)
  | [.list xs] => some (.int xs.length)
  | [.str x] => if x.length ≤ big then some (.int x.length) else none
  | _ => none
def oMin : List T → Option T
  | [.int i, .int j] => some (.int (if j < i then j else i))
  | _ => none
def oMax : List T → Option T
  | [.int i, .int j] => some (.int (if j > i then j else i))
  | _ => none
def oTuple : List T → Option T
  | [.tuple xs] => some (.tuple xs)
  | [.list xs] => some (.tuple xs)
  | _ => none
def oList : List T → Option T
  | [.tuple xs] => some (.list xs)
  | [.list xs] => some (.list xs)
  | _ => none
def oInt : List T → Option T
  | [.int i] => some (.int i)
  | [.bool b] => some (.int (if b then 1 else 0))
  | _ => none
def sIx (n d : Nat) : Option Int → Nat
  | none => d
  | some v => (if v < 0 then max (v + n) 0 else min v n).toNat
def cutZ {α : Type} (xs : List α) (lo hi : Option Int) : List α := (xs.drop (sIx xs.length 0 lo)).take (sIx xs.length xs.length hi - sIx xs.length 0 lo)
def oSl (t : T) (lo hi : Option Int) : Option T := match t with
  | .tuple xs => some (.tuple (cutZ xs lo hi))
  | .list xs => some (.list (cutZ xs lo hi))
  | _ => none
def oAll : List T → Option T
  | [.list xs] => if xs.all (fun x => match x with | .bool _ => true | _ => false) then some (.bool (xs.all fun x => match x with | .bool b => b | _ => false)) else none
  | _ => none
def oSum : List T → Option T
  | [.tuple xs] => (xs.foldl (fun (o : Option Int) x => o.bind fun a => match x with | .int i => some (a + i) | _ => none) (some 0)).map .int
  | [.list xs] => (xs.foldl (fun (o : Option Int) x => o.bind fun a => match x with | .int i => some (a + i) | _ => none) (some 0)).map .int
  | _ => none

def oRev : T → Option T
  | .tuple xs => some (.tuple xs.reverse)
  | .list xs => some (.list xs.reverse)
  | _ => none
/-- the ints of a list, the texts of a list -/
def intsOf : List T → Option (List Int)
  | [] => some []
  | .int i :: ts => (intsOf ts).map fun r => i :: r
  | _ :: _ => none
def strsOf : List T → Option (List Str)
  | [] => some []
  | .str x :: ts => (strsOf ts).map fun r => x :: r
  | _ :: _ => none
def insI (x : Int) : List Int → List Int
  | [] => [x]
  | y :: ys => if x ≤ y then x :: y :: ys else y :: insI x ys
def sortI : List Int → List Int
  | [] => []
  | x :: xs => insI x (sortI xs)
def insS (x : Str) : List Str → List Str
  | [] => [x]
  | y :: ys => if !strLt y x then x :: y :: ys else y :: insS x ys
def sortS : List Str → List Str
  | [] => []
  | x :: xs => insS x (sortS xs)
def dedup {α : Type} [DecidableEq α] : List α → List α
  | [] => []
  | x :: xs => x :: (dedup xs).filter fun y => decide (y ≠ x)
/-- sorted(set(..)) of ints or of texts -/
def oSortedSet : List T → Option T
  | [.list xs] | [.tuple xs] => if xs.length < 64 then
      match intsOf xs with
      | some ns => some (.list ((sortI (dedup ns)).map .int))
      | none => (strsOf xs).map fun ss => .list ((sortS (dedup ss)).map .str)
    else none
  | _ => none
def oSorted : List T → Option T
  | [.list xs] => if xs.length < 64 then
      match intsOf xs with
      | some ns => some (.list ((sortI ns).map .int))
      | none => (strsOf xs).map fun ss => .list ((sortS ss).map .str)
    else none
  | _ => none
def oLenSet : List T → Option T
  | [.list xs] => if xs.length < 64 then (intsOf xs).map fun ns => .int (dedup ns).length else none
  | _ => none
def keyOf : T → Option Key
  | .int i => some (.inl i)
  | .str x => some (.inr x)
  | _ => none
def putD (kvs : List (Key × T)) (k : Key) (v : T) : List (Key × T) := if kvs.any (fun p => decide (p.1 = k)) then kvs.map fun p => if p.1 = k then (k, v) else p else kvs ++ [(k, v)]
def getD (kvs : List (Key × T)) (k : Key) : Option T := (kvs.find? fun p => decide (p.1 = k)).map (·.2)
def hasD (kvs : List (Key × T)) (k : Key) : Bool := kvs.any fun p => decide (p.1 = k)
def keyT : Key → T
  | .inl i => .int i
  | .inr x => .str x

/-! ### expressions -/
def dic? (i : Nat) (ε : Ev) : Option (List (Key × T)) := match ε[i]? with
  | some (some (.dic kvs)) => some kvs
  | _ => none
def dIn (neg : Bool) (f : Fe) (i : Nat) : Fe := fun ε => (f ε).bind fun t => (keyOf t).bind fun k => (dic? i ε).map fun kvs => .bool (if neg then !hasD kvs k else hasD kvs k)
def dGet (i : Nat) (f : Fe) : Fe := fun ε => (f ε).bind fun t => (keyOf t).bind fun k => (dic? i ε).bind fun kvs => getD kvs k
def dSorted (i : Nat) : Fe := fun ε => (dic? i ε).bind fun kvs => if kvs.length < 64 then (intsOf (kvs.map fun p => keyT p.1)).map fun ns => .list ((sortI ns).map .int) else none
def cst (t : T) : Fe := fun _ => some t
/-- a name, read: a value or an own list -/
def nm (i : Nat) : Fe := fun ε => match ε[i]? with
  | some (some (.imm t)) => some t
  | some (some (.own ts)) => some (.list ts)
  | _ => none
/-- a name that holds a value that nobody changes -/
def nmV (i : Nat) : Fe := fun ε => match ε[i]? with
  | some (some (.imm t)) => some t
  | _ => none
def op1 (o : T → Option T) (f : Fe) : Fe := fun ε => (f ε).bind o
def op2 (o : T → T → Option T) (f g : Fe) : Fe := fun ε => (f ε).bind fun x => (g ε).bind fun y => o x y
def args : List Fe → Ev → Option (List T)
  | [], _ => some []
  | f :: fs, ε => (f ε).bind fun t => (args fs ε).map fun ts => t :: ts
def opN (o : List T → Option T) (fs : List Fe) : Fe := fun ε => (args fs ε).bind o
def mkTup (fs : List Fe) : Fe := fun ε => (args fs ε).bind fun ts => if ts.length ≤ big then some (.tuple ts) else none
def mkLst (fs : List Fe) : Fe := fun ε => (args fs ε).bind fun ts => if ts.length ≤ big then some (.list ts) else none
def opt (f : Fe) : Ev → Option (Option Int) := fun ε => (f ε).bind fun t => match t with | .int i => some (some i) | _ => none
def optN : Ev → Option (Option Int) := fun _ => some none
def slice (f : Fe) (lo hi : Ev → Option (Option Int)) : Fe := fun ε => (f ε).bind fun t => (lo ε).bind fun l => (hi ε).bind fun h => oSl t l h
def andV (f g : Fe) : Fe := fun ε => (f ε).bind fun t => match t with | .bool true => g ε | .bool false => some (.bool false) | _ => none
def orV (f g : Fe) : Fe := fun ε => (f ε).bind fun t => match t with | .bool false => g ε | .bool true => some (.bool true) | _ => none
def notV (f : Fe) : Fe := fun ε => (f ε).bind fun t => match t with | .bool b => some (.bool (!b)) | _ => none
def chain (o p : T → T → Option T) (f g h : Fe) : Fe := fun ε => (f ε).bind fun x => (g ε).bind fun y => (o x y).bind fun r => match r with
  | .bool true => (h ε).bind fun z => p y z
  | .bool false => some (.bool false)
  | _ => none

/-! ### tests -/
def tstB (f : Fe) : Ft := fun ε => (f ε).bind fun t => match t with | .bool b => some b | _ => none
def tstL (f : Fe) : Ft := fun ε => (f ε).bind fun t => match t with | .list ts => some (!ts.isEmpty) | .tuple ts => some (!ts.isEmpty) | _ => none
def andT (f g : Ft) : Ft := fun ε => (f ε).bind fun b => if b then g ε else some false
def orT (f g : Ft) : Ft := fun ε => (f ε).bind fun b => if b then some true else g ε
def notT (f : Ft) : Ft := fun ε => (f ε).map fun b => !b
def ifE (c : Ft) (f g : Fe) : Fe := fun ε => (c ε).bind fun b => if b then f ε else g ε

def cstT (b : Bool) : Ft := fun _ => some b
def ofT (c : Ft) : Fe := fun ε => (c ε).map .bool

/-! ### what is walked -/
def itSeq (f : Fe) : Fi := fun ε => (f ε).bind fun t => match t with | .tuple ts => some ts | .list ts => some ts | _ => none
def itTup (f : Fe) : Fi := fun ε => (f ε).bind fun t => match t with | .tuple ts => some ts | _ => none
def rng (lo hi : Int) : List T := (List.range (hi - lo).toNat).map fun (k : Nat) => .int (lo + (k : Int))
def small62 (i : Int) : Bool := decide (-(2 ^ 62) ≤ i) && decide (i < 2 ^ 62)
def itRng1 (f : Fe) : Fi := fun ε => (f ε).bind fun t => match t with | .int j => if small62 j then some (rng 0 j) else none | _ => none
def itRng2 (f g : Fe) : Fi := fun ε => (f ε).bind fun t => (g ε).bind fun u => match t, u with | .int i, .int j => if small62 i && small62 j then some (rng i j) else none | _, _ => none
def enum (ts : List T) : List T := ts.zipIdx.map fun p => .tuple [.int p.2, p.1]
def itEnum (f : Fi) : Fi := fun ε => (f ε).map enum

/-! ### targets -/
def gNm (i : Nat) : Fg := fun t ε => some (ε.set i (some (.imm t)))
def gAll : List Fg → List T → Ev → Option Ev
  | [], [], ε => some ε
  | g :: gs, t :: ts, ε => (g t ε).bind fun ε' => gAll gs ts ε'
  | _, _, _ => none
def gTu (gs : List Fg) : Fg := fun t ε => match t with | .tuple ts => gAll gs ts ε | _ => none

/-! ### comprehensions -/
def compL (g : Fg) (c : Ft) (e : Fe) : List T → Ev → Option (List T)
  | [], _ => some []
  | t :: ts, ε => (g t ε).bind fun ε1 => (c ε1).bind fun b => if b then (e ε1).bind fun y => (compL g c e ts ε1).map fun ys => y :: ys else compL g c e ts ε1
def capEnv (own : Nat) (caps : List Nat) (ε : Ev) : Ev := List.replicate own none ++ caps.map fun i => (ε[i]?).join
def comp (own : Nat) (caps : List Nat) (it : Fi) (g : Fg) (c : Ft) (e : Fe) : Fe := fun ε => (it ε).bind fun ts => if ts.length ≤ big then (compL g c e ts (capEnv own caps ε)).map .list else none

/-! ### statements -/
def skip : Fs := fun ε => some (.nx ε)
def seq (a b : Fs) : Fs := fun ε => (a ε).bind fun o => match o with | .nx ε' => b ε' | o => some o
def asg (i : Nat) (f : Fe) : Fs := fun ε => (f ε).map fun t => .nx (ε.set i (some (.imm t)))
/-- a new list to a name of its own -/
def asgN (i : Nat) (f : Fe) : Fs := fun ε => (f ε).bind fun t => match t with | .list ts => some (.nx (ε.set i (some (.own ts)))) | _ => none
def asgT (g : Fg) (f : Fe) : Fs := fun ε => (f ε).bind fun t => (g t ε).map .nx
def rtn (f : Fe) : Fs := fun ε => (f ε).map .rt
def iff (c : Ft) (a b : Fs) : Fs := fun ε => (c ε).bind fun x => if x then a ε else b ε
def brk : Fs := fun ε => some (.bk ε)
def cnt : Fs := fun ε => some (.ct ε)
def forL (g : Fg) (b : Fs) : List T → Ev → Option Out
  | [], ε => some (.nx ε)
  | t :: ts, ε => (g t ε).bind fun ε1 => (b ε1).bind fun o => match o with
    | .nx ε2 => forL g b ts ε2
    | .ct ε2 => forL g b ts ε2
    | .bk ε2 => some (.nx ε2)
    | .rt t => some (.rt t)
def for_ (it : Fi) (g : Fg) (b : Fs) : Fs := fun ε => (it ε).bind fun ts => forL g b ts ε
def whl (c : Ft) (b : Fs) : Nat → Fs
  | 0, _ => none
  | n + 1, ε => (c ε).bind fun x => if x then (b ε).bind fun o => (match o with
      | .nx ε2 => whl c b n ε2
      | .ct ε2 => whl c b n ε2
      | .bk ε2 => some (.nx ε2)
      | .rt t => some (.rt t)) else some (.nx ε)
def app (i : Nat) (f : Fe) : Fs := fun ε => match ε[i]? with
  | some (some (.own ts)) => (f ε).bind fun t => if ts.length < big then some (.nx (ε.set i (some (.own (ts ++ [t]))))) else none
  | _ => none
def ext (i : Nat) (f : Fe) : Fs := fun ε => match ε[i]? with
  | some (some (.own ts)) => (f ε).bind fun t => match t with
    | .list us => if ts.length + us.length ≤ big then some (.nx (ε.set i (some (.own (ts ++ us))))) else none
    | _ => none
  | _ => none
/-- x = y.pop() -/
def pop (i j : Nat) : Fs := fun ε => match ε[j]? with
  | some (some (.own ts)) => (ts.getLast?).bind fun t => if i = j then none else some (.nx ((ε.set j (some (.own ts.dropLast))).set i (some (.imm t))))
  | _ => none

/-- a, b = x, y -/
def par (i j : Nat) (own : Bool) (f g : Fe) : Fs := fun ε => (f ε).bind fun t => (g ε).bind fun u => if own then (match u with | .list us => some (.nx ((ε.set i (some (.imm t))).set j (some (.own us)))) | _ => none) else some (.nx ((ε.set i (some (.imm t))).set j (some (.imm u))))
/-- d = {k: v} -/
def dNew (i : Nat) (k v : Fe) : Fs := fun ε => (k ε).bind fun t => (keyOf t).bind fun k => (v ε).map fun v => .nx (ε.set i (some (.dic [(k, v)])))
def pairsD : List T → Option (List (Key × T))
  | [] => some []
  | .tuple [k, v] :: r => (keyOf k).bind fun k => (pairsD r).map fun r => (k, v) :: r
  | _ :: _ => none
/-- d = dict(pairs) -/
def dOf (i : Nat) (f : Fe) : Fs := fun ε => (f ε).bind fun t => match t with | .list ts => (pairsD ts).map fun kvs => .nx (ε.set i (some (.dic (kvs.foldl (fun d p => putD d p.1 p.2) [])))) | _ => none
def dPut (i : Nat) (k v : Fe) : Fs := fun ε => (v ε).bind fun v => (k ε).bind fun t => (keyOf t).bind fun k => (dic? i ε).bind fun kvs => if kvs.length < big then some (.nx (ε.set i (some (.dic (putD kvs k v))))) else none

/-! ### defs -/
def runF (b : Fs) (n : Nat) (as : List T) : Option T := (b ((as.map fun t => some (.imm t)) ++ List.replicate (n - as.length) none)).bind fun o => match o with
  | .rt t => some t
  | .nx _ => some .none
  | _ => none
end D
end
section
set_option linter.all false
set_option Elab.async false
set_option maxRecDepth 100000
set_option autoImplicit false
namespace D
open PySem PySem.Spec PyProof.Rows L2

/-! ### a tree and the value that stands for it -/
mutual
def Rep (K : PySem.W.Frag) (F : Addr → Prop) (H : Hp) : T → V → Prop
  | .none, v => v = .non
  | .bool b, v => v = .bl b
  | .int i, v => v = .int i
  | .str x, v => v = .str x
  | .dict _, _ => False
  | .tuple ts, v => ∃ a vs, v = .ref a ∧ SqT K H a vs ∧ RepL K F H ts vs
  | .list ts, v => ∃ a vs, v = .ref a ∧ F a ∧ Rd H a (.lst vs) ∧ RepL K F H ts vs
def RepL (K : PySem.W.Frag) (F : Addr → Prop) (H : Hp) : List T → List V → Prop
  | [], vs => vs = []
  | t :: ts, vs => ∃ v r, vs = v :: r ∧ Rep K F H t v ∧ RepL K F H ts r
end
section
variable {K : PySem.W.Frag} {F F' : Addr → Prop} {H H' : Hp}
mutual
theorem Rep.keep (h1 : ∀ b xs, SqT K H b xs → SqT K H' b xs) (h2 : ∀ b xs, F b → Rd H b (.lst xs) → F' b ∧ Rd H' b (.lst xs)) : ∀ {t : T} {v : V}, Rep K F H t v → Rep K F' H' t v
  | .none, v, h => by simpa [Rep] using h
  | .bool _, v, h => by simpa [Rep] using h
  | .dict _, v, h => by simp [Rep] at h
  | .int _, v, h => by simpa [Rep] using h
  | .str _, v, h => by simpa [Rep] using h
  | .tuple ts, v, h => by
    simp only [Rep] at h ⊢
    obtain ⟨a, vs, e, q, r⟩ := h
    exact ⟨a, vs, e, h1 _ _ q, RepL.keep h1 h2 r⟩
  | .list ts, v, h => by
    simp only [Rep] at h ⊢
    obtain ⟨a, vs, e, f, q, r⟩ := h
    exact ⟨a, vs, e, (h2 _ _ f q).1, (h2 _ _ f q).2, RepL.keep h1 h2 r⟩
theorem RepL.keep (h1 : ∀ b xs, SqT K H b xs → SqT K H' b xs) (h2 : ∀ b xs, F b → Rd H b (.lst xs) → F' b ∧ Rd H' b (.lst xs)) : ∀ {ts : List T} {vs : List V}, RepL K F H ts vs → RepL K F' H' ts vs
  | [], vs, h => by simpa [RepL] using h
  | t :: ts, vs, h => by
    simp only [RepL] at h ⊢
    obtain ⟨v, r, e, q, z⟩ := h
    exact ⟨v, r, e, Rep.keep h1 h2 q, RepL.keep h1 h2 z⟩
end
theorem RepL.nil : RepL K F H [] [] := by simp [RepL]
theorem RepL.cons {t : T} {v : V} {ts : List T} {vs : List V} (h : Rep K F H t v) (r : RepL K F H ts vs) : RepL K F H (t :: ts) (v :: vs) := by
  simp only [RepL]
  exact ⟨v, vs, rfl, h, r⟩
theorem RepL.length : ∀ {ts : List T} {vs : List V}, RepL K F H ts vs → ts.length = vs.length
  | [], vs, h => by
    simp only [RepL] at h
    subst h
    rfl
  | t :: ts, vs, h => by
    simp only [RepL] at h
    obtain ⟨v, r, e, q, z⟩ := h
    subst e
    simp [RepL.length z]
theorem RepL.get : ∀ {ts : List T} {vs : List V} {i : Nat} {t : T}, RepL K F H ts vs → ts[i]? = some t → ∃ v, vs[i]? = some v ∧ Rep K F H t v
  | [], vs, i, t, h, e => by simp at e
  | x :: ts, vs, 0, t, h, e => by
    simp only [RepL] at h
    obtain ⟨v, r, rfl, q, z⟩ := h
    simp at e
    subst e
    exact ⟨v, rfl, q⟩
  | x :: ts, vs, i + 1, t, h, e => by
    simp only [RepL] at h
    obtain ⟨v, r, rfl, q, z⟩ := h
    obtain ⟨u, h1, h2⟩ := RepL.get (i := i) (t := t) z (by simpa using e)
    exact ⟨u, by simpa using h1, h2⟩
theorem RepL.append : ∀ {ts us : List T} {vs ws : List V}, RepL K F H ts vs → RepL K F H us ws → RepL K F H (ts ++ us) (vs ++ ws)
  | [], us, vs, ws, h, r => by
    simp only [RepL] at h
    subst h
    exact r
  | t :: ts, us, vs, ws, h, r => by
    simp only [RepL] at h
    obtain ⟨v, z, rfl, q, y⟩ := h
    exact RepL.cons q (RepL.append y r)
theorem RepL.take : ∀ {ts : List T} {vs : List V} (n : Nat), RepL K F H ts vs → RepL K F H (ts.take n) (vs.take n)
  | [], vs, n, h => by
    simp only [RepL] at h
    subst h
    simpa using RepL.nil
  | t :: ts, vs, 0, h => by simpa using RepL.nil
  | t :: ts, vs, n + 1, h => by
    simp only [RepL] at h
    obtain ⟨v, z, rfl, q, y⟩ := h
    simpa using RepL.cons q (RepL.take n y)
theorem RepL.drop : ∀ {ts : List T} {vs : List V} (n : Nat), RepL K F H ts vs → RepL K F H (ts.drop n) (vs.drop n)
  | [], vs, n, h => by
    simp only [RepL] at h
    subst h
    simpa using RepL.nil
  | t :: ts, vs, 0, h => by simpa using h
  | t :: ts, vs, n + 1, h => by
    simp only [RepL] at h
    obtain ⟨v, z, rfl, q, y⟩ := h
    simpa using RepL.drop n y
end

/-! ### heaps that grow -/
structure Ext (F : Addr → Prop) (H : Hp) (F' : Addr → Prop) (H' : Hp) : Prop where
  same : Same H H'
  sub : ∀ a, F a → F' a
  new : ∀ a, F' a → F a ∨ H a = none
  dom : ∀ a, F' a → ∃ o, H' a = some o
section
variable {K : PySem.W.Frag} {F F1 F2 : Addr → Prop} {H H1 H2 : Hp}
theorem Ext.refl (d : ∀ a, F a → ∃ o, H a = some o) : Ext F H F H := ⟨Same.refl H, fun _ h => h, fun _ h => .inl h, d⟩
theorem Ext.trans (a : Ext F H F1 H1) (b : Ext F1 H1 F2 H2) : Ext F H F2 H2 :=
  ⟨a.same.trans b.same, fun x h => b.sub x (a.sub x h), fun x h => (b.new x h).elim (fun z => a.new x z) fun z => .inr (by
    cases e : H x with
    | none => rfl
    | some o =>
      rw [a.same x o e] at z
      cases z), b.dom⟩
theorem Rd.same {a : Addr} {u : HO} (s : Same H H1) (r : Rd H a u) : Rd H1 a u := by
  rcases r with r | ⟨o, r⟩
  · exact .inl (s _ _ r)
  · exact .inr ⟨o, s _ _ r⟩
theorem SqT.same {a : Addr} {xs : List V} (s : Same H H1) (r : SqT K H a xs) : SqT K H1 a xs := by
  rcases r with r | r
  · exact .inl (Rd.same s r)
  · exact .inr r
theorem Rep.ext {t : T} {v : V} (r : Rep K F H t v) (x : Ext F H F1 H1) : Rep K F1 H1 t v := r.keep (fun _ _ q => SqT.same x.same q) fun b _ f q => ⟨x.sub b f, Rd.same x.same q⟩
theorem RepL.ext {t : List T} {v : List V} (r : RepL K F H t v) (x : Ext F H F1 H1) : RepL K F1 H1 t v := r.keep (fun _ _ q => SqT.same x.same q) fun b _ f q => ⟨x.sub b f, Rd.same x.same q⟩
/-- something is laid at a new place -/
theorem Ext.laid {p : Addr} {o : HO} (d : ∀ a, F a → ∃ o, H a = some o) (hp : H p = none) : Ext F H F (upd H p o) :=
  ⟨same_new' hp o, fun _ h => h, fun _ h => .inl h, fun a h => by
    obtain ⟨u, e⟩ := d a h
    exact ⟨u, same_new' hp o a u e⟩⟩
where same_new' {H : Hp} {p : Addr} (h : H p = none) (o : HO) : Same H (upd H p o) := fun b u q => by rw [upd_ne (ne_of_none q h)]; exact q
/-- .. and nobody will change it -/
theorem Ext.laidF {p : Addr} {o : HO} (d : ∀ a, F a → ∃ o, H a = some o) (hp : H p = none) : Ext F H (fun a => F a ∨ a = p) (upd H p o) :=
  ⟨Ext.laid.same_new' hp o, fun _ h => .inl h, fun a h => by
    rcases h with h | rfl
    · exact .inl h
    · exact .inr hp, fun a h => by
    rcases h with h | rfl
    · obtain ⟨u, e⟩ := d a h
      exact ⟨u, Ext.laid.same_new' hp o a u e⟩
    · exact ⟨o, upd_same⟩⟩
end

/-! ### what stays: tuples, and lists that nobody changes -/
structure Kp (K : PySem.W.Frag) (F : Addr → Prop) (H : Hp) (F' : Addr → Prop) (H' : Hp) : Prop where
  tup : ∀ b xs, SqT K H b xs → SqT K H' b xs
  lst : ∀ b xs, F b → Rd H b (.lst xs) → F' b ∧ Rd H' b (.lst xs)
section
variable {K : PySem.W.Frag} {F F1 F2 : Addr → Prop} {H H1 H2 : Hp}
theorem Kp.refl : Kp K F H F H := ⟨fun _ _ h => h, fun _ _ f h => ⟨f, h⟩⟩
theorem Kp.trans (a : Kp K F H F1 H1) (b : Kp K F1 H1 F2 H2) : Kp K F H F2 H2 := ⟨fun x xs h => b.tup x xs (a.tup x xs h), fun x xs f h => b.lst x xs (a.lst x xs f h).1 (a.lst x xs f h).2⟩
theorem Ext.kp (x : Ext F H F1 H1) : Kp K F H F1 H1 := ⟨fun _ _ q => SqT.same x.same q, fun b _ f q => ⟨x.sub b f, Rd.same x.same q⟩⟩
theorem Rep.kp {t : T} {v : V} (r : Rep K F H t v) (x : Kp K F H F1 H1) : Rep K F1 H1 t v := r.keep x.tup x.lst
theorem RepL.kp {t : List T} {v : List V} (r : RepL K F H t v) (x : Kp K F H F1 H1) : RepL K F1 H1 t v := r.keep x.tup x.lst
end

/-! ### readable: a tree, or a list of this frame's own -/
def RepR (K : PySem.W.Frag) (O F : Addr → Prop) (H : Hp) (t : T) (v : V) : Prop :=
  Rep K F H t v ∨ ∃ ts a vs, t = .list ts ∧ v = .ref a ∧ O a ∧ H a = some (.lst vs) ∧ RepL K F H ts vs
section
variable {K : PySem.W.Frag} {O F F1 : Addr → Prop} {H H1 : Hp} {v : V}
theorem RepR.ext {t : T} (r : RepR K O F H t v) (x : Ext F H F1 H1) : RepR K O F1 H1 t v := by
  rcases r with r | ⟨ts, a, vs, e1, e2, e3, e4, r⟩
  · exact .inl (r.ext x)
  · exact .inr ⟨ts, a, vs, e1, e2, e3, x.same _ _ e4, r.ext x⟩
theorem RepR.non (r : RepR K O F H .none v) : v = .non := by
  rcases r with r | ⟨ts, a, vs, e1, _⟩
  · simpa [Rep] using r
  · cases e1
theorem RepR.bl {b : Bool} (r : RepR K O F H (.bool b) v) : v = .bl b := by
  rcases r with r | ⟨ts, a, vs, e1, _⟩
  · simpa [Rep] using r
  · cases e1
theorem RepR.int {i : Int} (r : RepR K O F H (.int i) v) : v = .int i := by
  rcases r with r | ⟨ts, a, vs, e1, _⟩
  · simpa [Rep] using r
  · cases e1
theorem RepR.str {x : Str} (r : RepR K O F H (.str x) v) : v = .str x := by
  rcases r with r | ⟨ts, a, vs, e1, _⟩
  · simpa [Rep] using r
  · cases e1
theorem RepR.tup {ts : List T} (r : RepR K O F H (.tuple ts) v) : ∃ a vs, v = .ref a ∧ SqT K H a vs ∧ RepL K F H ts vs := by
  rcases r with r | ⟨ts, a, vs, e1, _⟩
  · simpa [Rep] using r
  · cases e1
theorem RepR.lst {ts : List T} (r : RepR K O F H (.list ts) v) : ∃ a vs, v = .ref a ∧ Rd H a (.lst vs) ∧ RepL K F H ts vs := by
  rcases r with r | ⟨us, a, vs, e1, e2, e3, e4, r⟩
  · simp only [Rep] at r
    obtain ⟨a, vs, e, _, q, z⟩ := r
    exact ⟨a, vs, e, q, z⟩
  · cases e1
    exact ⟨a, vs, e2, .inl e4, r⟩
end

/-! ### the names -/
def RepD (K : PySem.W.Frag) (F : Addr → Prop) (H : Hp) : List (D.Key × T) → List (D.Key × V) → Prop
  | [], vs => vs = []
  | p :: ts, vs => ∃ v r, vs = (p.1, v) :: r ∧ Rep K F H p.2 v ∧ RepD K F H ts r
theorem RepD.kp {K : PySem.W.Frag} {F F' : Addr → Prop} {H H' : Hp} (x : Kp K F H F' H') : ∀ {ts : List (D.Key × T)} {vs : List (D.Key × V)}, RepD K F H ts vs → RepD K F' H' ts vs
  | [], vs, h => h
  | p :: ts, vs, h => by
    obtain ⟨v, r, e, q, z⟩ := h
    exact ⟨v, r, e, q.kp x, RepD.kp x z⟩
def RelSl (K : PySem.W.Frag) (O F : Addr → Prop) (H : Hp) : Sl → V → Prop
  | .imm t, v => Rep K F H t v
  | .own ts, v => ∃ a vs, v = .ref a ∧ ¬ F a ∧ O a ∧ H a = some (.lst vs) ∧ RepL K F H ts vs
  | .dic kvs, v => ∃ a vs, v = .ref a ∧ ¬ F a ∧ O a ∧ H a = some (.dK vs) ∧ RepD K F H kvs vs
def Sl.isOwn : Sl → Bool
  | .imm _ => false
  | _ => true
/-- the names of the frame by trees: F₀, H₀ at the frame's entry, F, H now -/
structure RelE (K : PySem.W.Frag) (F₀ : Addr → Prop) (H₀ : Hp) (O F : Addr → Prop) (H : Hp) (ε : Ev) (σ : L2.St) : Prop where
  len : ε.length = σ.length
  val : ∀ (i : Nat) (s : Sl), ε[i]? = some (some s) → ∃ v, σ[i]? = some (some v) ∧ RelSl K O F H s v
  ne : ∀ (i j : Nat) (s u : Sl) (a : Addr), i ≠ j → ε[i]? = some (some s) → ε[j]? = some (some u) → s.isOwn = true → u.isOwn = true → σ[i]? = some (some (.ref a)) → σ[j]? = some (some (.ref a)) → False
  ent : Ext F₀ H₀ F H
  o0 : ∀ a, O a → H₀ a = none
  fr : ∀ a, H a = none → O a
section
variable {K : PySem.W.Frag} {F₀ O F F1 : Addr → Prop} {H₀ H H1 : Hp} {ε : Ev} {σ : L2.St}
theorem RelE.dom (r : RelE K F₀ H₀ O F H ε σ) : ∀ a, F a → ∃ o, H a = some o := r.ent.dom
theorem RelSl.ext {s : Sl} {v : V} (r : RelSl K O F H s v) (x : Ext F H F1 H1) : RelSl K O F1 H1 s v := by
  have nf : ∀ {a : Addr} {o : HO}, ¬ F a → H a = some o → ¬ F1 a := fun {a o} n eh f => by
    rcases x.new a f with z | z
    · exact n z
    · rw [eh] at z
      cases z
  cases s with
  | imm t => exact Rep.ext r x
  | own ts =>
    obtain ⟨a, vs, e, n, e0, eh, r⟩ := r
    exact ⟨a, vs, e, nf n eh, e0, x.same _ _ eh, r.ext x⟩
  | dic ts =>
    obtain ⟨a, vs, e, n, e0, eh, r⟩ := r
    exact ⟨a, vs, e, nf n eh, e0, x.same _ _ eh, RepD.kp x.kp r⟩
theorem RelE.ext (r : RelE K F₀ H₀ O F H ε σ) (x : Ext F H F1 H1) : RelE K F₀ H₀ O F1 H1 ε σ :=
  ⟨r.len, fun i s e => by
    obtain ⟨v, h1, h2⟩ := r.val i s e
    exact ⟨v, h1, h2.ext x⟩, r.ne, r.ent.trans x, r.o0, fun a e => r.fr a (by
    cases z : H a with
    | none => rfl
    | some w =>
      rw [x.same a w z] at e
      cases e)⟩
theorem get_set {α : Type} {l : List (Option α)} {i j : Nat} {x : Option α} {y : α} (h : (l.set i x)[j]? = some (some y)) : (i = j ∧ x = some y ∧ j < l.length) ∨ (i ≠ j ∧ l[j]? = some (some y)) := by
  rw [List.getElem?_set] at h
  by_cases e : i = j
  · subst e
    rw [if_pos rfl] at h
    split at h
    next hl => exact .inl ⟨rfl, Option.some.inj h, hl⟩
    next => cases h
  · rw [if_neg e] at h
    exact .inr ⟨e, h⟩
theorem set_get {α : Type} {l : List (Option α)} {i : Nat} {x : Option α} (h : i < l.length) : (l.set i x)[i]? = some x := by
  rw [List.getElem?_set, if_pos rfl, if_pos h]
theorem set_get_ne {α : Type} {l : List (Option α)} {i j : Nat} {x : Option α} (h : i ≠ j) : (l.set i x)[j]? = l[j]? := by
  rw [List.getElem?_set, if_neg h]
/-- a name takes a tree -/
theorem RelE.set {t : T} {v : V} (r : RelE K F₀ H₀ O F H ε σ) (i : Nat) (h : Rep K F H t v) : RelE K F₀ H₀ O F H (ε.set i (some (.imm t))) (σ.set i (some v)) := by
  refine ⟨by simp [r.len], fun j s e => ?_, fun j k s u a hjk e1 e2 o1 o2 h1 h2 => ?_, r.ent, r.o0, r.fr⟩
  · rcases get_set e with ⟨rfl, e', hl⟩ | ⟨ne, e'⟩
    · cases e'
      exact ⟨v, set_get (by rw [← r.len]; exact hl), h⟩
    · obtain ⟨w, h1, h2⟩ := r.val j s e'
      exact ⟨w, by rw [set_get_ne ne]; exact h1, h2⟩
  · rcases get_set e1 with ⟨rfl, e', hl⟩ | ⟨ne1, e1'⟩
    · cases e'
      cases o1
    · rcases get_set e2 with ⟨rfl, e', hl⟩ | ⟨ne2, e2'⟩
      · cases e'
        cases o2
      · rw [set_get_ne ne1] at h1
        rw [set_get_ne ne2] at h2
        exact r.ne j k s u a hjk e1' e2' o1 o2 h1 h2
/-- a name takes a list or dict of its own -/
theorem RelE.setOwn {s : Sl} {a : Addr} (r : RelE K F₀ H₀ O F H ε σ) (i : Nat) (h : RelSl K O F H s (.ref a)) (fr : ∀ (j : Nat) (u : Sl), ε[j]? = some (some u) → u.isOwn = true → σ[j]? ≠ some (some (.ref a))) :
    RelE K F₀ H₀ O F H (ε.set i (some s)) (σ.set i (some (.ref a))) := by
  refine ⟨by simp [r.len], fun j u e => ?_, fun j k u w b hjk e1 e2 o1 o2 h1 h2 => ?_, r.ent, r.o0, r.fr⟩
  · rcases get_set e with ⟨rfl, e', hl⟩ | ⟨ne, e'⟩
    · cases e'
      exact ⟨_, set_get (by rw [← r.len]; exact hl), h⟩
    · obtain ⟨w, h1, h2⟩ := r.val j u e'
      exact ⟨w, by rw [set_get_ne ne]; exact h1, h2⟩
  · rcases get_set e1 with ⟨rfl, e', hl⟩ | ⟨ne1, e1'⟩
    · rcases get_set e2 with ⟨rfl, _, _⟩ | ⟨ne2, e2'⟩
      · exact hjk rfl
      · rw [set_get (by rw [← r.len]; exact hl)] at h1
        rw [set_get_ne ne2] at h2
        cases h1
        exact fr k w e2' o2 h2
    · rw [set_get_ne ne1] at h1
      rcases get_set e2 with ⟨rfl, e', hl⟩ | ⟨ne2, e2'⟩
      · rw [set_get (by rw [← r.len]; exact hl)] at h2
        cases h2
        exact fr j u e1' o1 h1
      · rw [set_get_ne ne2] at h2
        exact r.ne j k u w b hjk e1' e2' o1 o2 h1 h2
/-- an own list or dict is changed -/
theorem RelE.mut {s s' : Sl} {a : Addr} {o o' : HO} (r : RelE K F₀ H₀ O F H ε σ) {i : Nat} (e : ε[i]? = some (some s)) (ho : s.isOwn = true) (hv : σ[i]? = some (some (.ref a))) (hn : ¬ F a) (ho' : O a) (ha : H a = some o)
    (hk : (∃ xs, o = .lst xs) ∨ ∃ xs, o = .dK xs) (h : Kp K F H F (upd H a o') → RelSl K O F (upd H a o') s' (.ref a)) : Kp K F H F (upd H a o') ∧ RelE K F₀ H₀ O F (upd H a o') (ε.set i (some s')) σ := by
  have kp : Kp K F H F (upd H a o') := by
    refine ⟨fun b xs q => ?_, fun b xs f q => ⟨f, ?_⟩⟩
    · rcases q with q | q
      · refine .inl ?_
        have nb : b ≠ a := by
          rintro rfl
          rcases q with q | ⟨_, q⟩
          · rw [ha] at q
            cases q
            rcases hk with ⟨_, z⟩ | ⟨_, z⟩ <;> cases z
          · rw [ha] at q
            cases q
            rcases hk with ⟨_, z⟩ | ⟨_, z⟩ <;> cases z
        rcases q with q | ⟨u, q⟩
        · exact .inl (by rw [upd_ne nb]; exact q)
        · exact .inr ⟨u, by rw [upd_ne nb]; exact q⟩
      · exact .inr q
    · have nb : b ≠ a := by
        rintro rfl
        exact hn f
      rcases q with q | ⟨u, q⟩
      · exact .inl (by rw [upd_ne nb]; exact q)
      · exact .inr ⟨u, by rw [upd_ne nb]; exact q⟩
  have h0 := r.o0 a ho'
  have hil : i < ε.length := (List.getElem?_eq_some_iff.mp e).1
  refine ⟨kp, ⟨by simp [r.len], fun j u e' => ?_, fun j k u w b hjk e1 e2 o1 o2 h1 h2 => ?_, ?_, r.o0, fun b e' => r.fr b (by
    by_cases nb : b = a
    · subst nb
      rw [upd_same] at e'
      cases e'
    · rwa [upd_ne nb] at e')⟩⟩
  · rcases get_set e' with ⟨rfl, e'', hl⟩ | ⟨ne, e''⟩
    · cases e''
      exact ⟨_, hv, h kp⟩
    · obtain ⟨w, h1, h2⟩ := r.val j u e''
      refine ⟨w, h1, ?_⟩
      cases u with
      | imm t => exact Rep.kp h2 kp
      | own ts =>
        obtain ⟨b, vs, rfl, n, e0, eh, z⟩ := h2
        have nb : b ≠ a := by
          rintro rfl
          exact r.ne i j s (.own ts) b ne e e'' ho rfl hv h1
        exact ⟨b, vs, rfl, n, e0, by rw [upd_ne nb]; exact eh, z.kp kp⟩
      | dic ts =>
        obtain ⟨b, vs, rfl, n, e0, eh, z⟩ := h2
        have nb : b ≠ a := by
          rintro rfl
          exact r.ne i j s (.dic ts) b ne e e'' ho rfl hv h1
        exact ⟨b, vs, rfl, n, e0, by rw [upd_ne nb]; exact eh, RepD.kp kp z⟩
  · have old : ∀ {m : Nat} {x : Sl}, (ε.set i (some s'))[m]? = some (some x) → ∃ y, ε[m]? = some (some y) ∧ (x.isOwn = true → y.isOwn = true) := fun {m x} em => by
      rcases get_set em with ⟨rfl, _, _⟩ | ⟨_, z⟩
      · exact ⟨s, e, fun _ => ho⟩
      · exact ⟨x, z, fun z => z⟩
    obtain ⟨y1, z1, w1⟩ := old e1
    obtain ⟨y2, z2, w2⟩ := old e2
    exact r.ne j k y1 y2 b hjk z1 z2 (w1 o1) (w2 o2) h1 h2
  · refine ⟨fun b u q => ?_, r.ent.sub, r.ent.new, fun b f => ?_⟩
    · have nb : b ≠ a := by
        rintro rfl
        rw [h0] at q
        cases q
      rw [upd_ne nb]
      exact r.ent.same b u q
    · have nb : b ≠ a := by
        rintro rfl
        exact hn f
      rw [upd_ne nb]
      exact r.ent.dom b f
end

/-! ### the judgements -/
/-- readable -/
def tR (K : PySem.W.Frag) (f : Fe) : TE := fun σ H Q => ∃ F₀ H₀ O F ε t, RelE K F₀ H₀ O F H ε σ ∧ f ε = some t ∧ ∀ v F' H', Ext F H F' H' → RepR K O F' H' t v → Q v H'
/-- a tree -/
def tV (K : PySem.W.Frag) (f : Fe) : TE := fun σ H Q => ∃ F₀ H₀ O F ε t, RelE K F₀ H₀ O F H ε σ ∧ f ε = some t ∧ ∀ v F' H', Ext F H F' H' → Rep K F' H' t v → Q v H'
/-- a new list -/
def tN (K : PySem.W.Frag) (f : Fe) : TE := fun σ H Q => ∃ F₀ H₀ O F ε ts, RelE K F₀ H₀ O F H ε σ ∧ f ε = some (.list ts) ∧ ∀ a vs F' H', Ext F H F' H' → H a = none → ¬ F' a → H' a = some (.lst vs) → RepL K F' H' ts vs → Q (.ref a) H'
def tT (K : PySem.W.Frag) (f : Ft) : TT := fun σ H Q => ∃ F₀ H₀ O F ε b, RelE K F₀ H₀ O F H ε σ ∧ f ε = some b ∧ ∀ F' H', Ext F H F' H' → Q b H'
def tAR (K : PySem.W.Frag) (fs : List Fe) : TA := fun σ H Q => ∃ F₀ H₀ O F ε ts, RelE K F₀ H₀ O F H ε σ ∧ args fs ε = some ts ∧ ∀ vs F' H', Ext F H F' H' → Paired (RepR K O F' H') ts vs → Q vs H'
def tAV (K : PySem.W.Frag) (fs : List Fe) : TA := fun σ H Q => ∃ F₀ H₀ O F ε ts, RelE K F₀ H₀ O F H ε σ ∧ args fs ε = some ts ∧ ∀ vs F' H', Ext F H F' H' → RepL K F' H' ts vs → Q vs H'
abbrev PEr (X : Cx) (e : Expr) (f : Fe) : Prop := PE X e (tR X.K f)
abbrev PEv (X : Cx) (e : Expr) (f : Fe) : Prop := PE X e (tV X.K f)
abbrev PEn (X : Cx) (e : Expr) (f : Fe) : Prop := PE X e (tN X.K f)
abbrev PTt (X : Cx) (e : Expr) (f : Ft) : Prop := PT X e (tT X.K f)
abbrev PWt (X : Cx) (e : Expr) (f : Ft) : Prop := PW X e (tT X.K f)
abbrev PAr (X : Cx) (es : List Expr) (fs : List Fe) : Prop := PA X es (tAR X.K fs)
abbrev PAv (X : Cx) (es : List Expr) (fs : List Fe) : Prop := PA X es (tAV X.K fs)
theorem PE_imp {X : Cx} {e : Expr} {t t' : TE} (h : PE X e t) (k : ∀ σ H Q, t' σ H Q → t σ H Q) : PE X e t' := fun pins s σ H Q I q => h pins s σ H Q I (k σ H Q q)
theorem PT_imp {X : Cx} {e : Expr} {t t' : TT} (h : PT X e t) (k : ∀ σ H Q, t' σ H Q → t σ H Q) : PT X e t' := fun pins s σ H Q I q => h pins s σ H Q I (k σ H Q q)
theorem PW_imp {X : Cx} {e : Expr} {t t' : TT} (h : PW X e t) (k : ∀ σ H Q, t' σ H Q → t σ H Q) : PW X e t' := fun w pins s σ H Q I q => h w pins s σ H Q I (k σ H Q q)
theorem PA_imp {X : Cx} {e : List Expr} {t t' : TA} (h : PA X e t) (k : ∀ σ H Q, t' σ H Q → t σ H Q) : PA X e t' := fun pos pins s σ H Q I q => h pos pins s σ H Q I (k σ H Q q)
theorem PS_imp {X : Cx} {e : Stmt} {t t' : TS} (h : PS X e t) (k : ∀ D σ H, t' D σ H → t D σ H) : PS X e t' := fun pins s σ H D I q => h pins s σ H D I (k D σ H q)
theorem PSs_imp {X : Cx} {e : List Stmt} {t t' : TS} (h : PSs X e t) (k : ∀ D σ H, t' D σ H → t D σ H) : PSs X e t' := fun pins s σ H D I q => h pins s σ H D I (k D σ H q)
section
variable {X : Cx} {e : Expr} {f : Fe}
theorem v2r (h : PEv X e f) : PEr X e f := PE_imp h fun σ H Q ⟨F₀, H₀, O, F, ε, t, r, e, k⟩ => ⟨F₀, H₀, O, F, ε, t, r, e, fun v F' H' x q => k v F' H' x (.inl q)⟩
/-- a new list becomes one that nobody changes -/
theorem n2v (h : PEn X e f) (hf : ∀ ε t, f ε = some t → ∃ ts, t = .list ts) : PEv X e f := PE_imp h fun σ H Q ⟨F₀, H₀, O, F, ε, t, r, e, k⟩ => by
  obtain ⟨ts, rfl⟩ := hf _ _ e
  refine ⟨F₀, H₀, O, F, ε, ts, r, e, fun a vs F' H' x hn nf ha q => ?_⟩
  have y : Ext F H (fun b => F' b ∨ b = a) H' := ⟨x.same, fun b z => .inl (x.sub b z), fun b z => by
    rcases z with z | rfl
    · exact x.new b z
    · exact .inr hn, fun b z => by
    rcases z with z | rfl
    · exact x.dom b z
    · exact ⟨_, ha⟩⟩
  refine k (.ref a) _ H' y ?_
  simp only [Rep]
  exact ⟨a, vs, rfl, .inr rfl, .inl ha, q.keep (fun _ _ z => z) fun b _ z w => ⟨.inl z, w⟩⟩
end
end D
end
section
set_option linter.all false
set_option Elab.async false
set_option maxRecDepth 100000
set_option autoImplicit false
namespace D
open PySem PySem.Spec PyProof.Rows L2
section
variable {X : Cx} {a b c e : Expr} {f g h : Fe} {pos : Pos}

/-! ### constants and names -/
theorem q_cst {t : T} {v : V} (he : PE X e (tC v)) (hr : ∀ F H, Rep X.K F H t v) : PEv X e (cst t) := PE_imp he fun σ H Q ⟨F₀, H₀, O, F, ε, t', r, e, k⟩ => by
  cases e
  exact k v F H (Ext.refl r.dom) (hr _ _)
theorem q_int {i j} : PEv X (.Constant (.int i) j pos) (cst (.int i)) := q_cst pe_int fun _ _ => by simp [Rep]
theorem q_bl {i j} : PEv X (.Constant (.bool i) j pos) (cst (.bool i)) := q_cst pe_bl fun _ _ => by simp [Rep]
theorem q_str {i j} : PEv X (.Constant (.str i) j pos) (cst (.str i)) := q_cst pe_str fun _ _ => by simp [Rep]
theorem q_non {j} : PEv X (.Constant .none j pos) (cst .none) := q_cst pe_non fun _ _ => by simp [Rep]
theorem q_nm (i : Nat) {x : Str} (hN : X.N[i]? = some x := by rfl) (hv : Vis X.env.scope x := by first | exact Or.inl rfl | exact Or.inr (Or.inl rfl) | exact Or.inr (Or.inr rfl)) (hd : (x == ("__debug__" : Str)) = false := by decide)
    (hcd : (x == ("__classdict__" : Str)) = false := by decide) : PEr X (.Name x pos) (nm i) := PE_imp (pv i hN hv hd hcd) fun σ H Q ⟨F₀, H₀, O, F, ε, t, r, e, k⟩ => by
  unfold nm at e
  split at e
  next t' he =>
    cases e
    obtain ⟨v, h1, h2⟩ := r.val _ _ he
    exact ⟨v, h1, k v F H (Ext.refl r.dom) (.inl h2)⟩
  next ts he =>
    cases e
    obtain ⟨v, h1, a, vs, rfl, n, h0, hh, hr⟩ := r.val _ _ he
    exact ⟨_, h1, k _ F H (Ext.refl r.dom) (.inr ⟨ts, a, vs, rfl, rfl, h0, hh, hr⟩)⟩
  next => cases e
theorem q_nmV (i : Nat) {x : Str} (hN : X.N[i]? = some x := by rfl) (hv : Vis X.env.scope x := by first | exact Or.inl rfl | exact Or.inr (Or.inl rfl) | exact Or.inr (Or.inr rfl)) (hd : (x == ("__debug__" : Str)) = false := by decide)
    (hcd : (x == ("__classdict__" : Str)) = false := by decide) : PEv X (.Name x pos) (nmV i) := PE_imp (pv i hN hv hd hcd) fun σ H Q ⟨F₀, H₀, O, F, ε, t, r, e, k⟩ => by
  unfold nmV at e
  split at e
  next t' he =>
    cases e
    obtain ⟨v, h1, h2⟩ := r.val _ _ he
    exact ⟨v, h1, k v F H (Ext.refl r.dom) h2⟩
  next => cases e

/-! ### operations on two values -/
/-- what a rule by values must show -/
def Op2 (K : PySem.W.Frag) (o : T → T → Option T) (R : R2) : Prop :=
  ∀ (O F : Addr → Prop) (H : Hp) (x y t : T) (vx vy : V) (Q : VK), (∀ a, F a → ∃ o, H a = some o) → RepR K O F H x vx → RepR K O F H y vy → o x y = some t →
    (∀ v F' H', Ext F H F' H' → Rep K F' H' t v → Q v H') → R vx vy H Q
theorem op2_imp {o : T → T → Option T} {R : R2} (h : Op2 X.K o R) : ∀ σ H Q, tV X.K (op2 o f g) σ H Q → tOp R (tR X.K f) (tR X.K g) σ H Q := by
  rintro σ H Q ⟨F₀, H₀, O, F, ε, t, r, e, k⟩
  simp only [op2, Option.bind_eq_some_iff] at e
  obtain ⟨x, ex, y, ey, eo⟩ := e
  refine ⟨F₀, H₀, O, F, ε, x, r, ex, fun vx F1 H1 x1 rx => ⟨F₀, H₀, O, F1, ε, y, r.ext x1, ey, fun vy F2 H2 x2 ry => ?_⟩⟩
  exact h O F2 H2 x y t vx vy Q x2.dom (rx.ext x2) ry eo fun v F' H' x3 q3 => k v F' H' ((x1.trans x2).trans x3) q3
theorem Inv.lstR {pins : List (Addr × Obj)} {σ : L2.St} {H : Hp} {s : Shared} {l : Addr} {xs : List V} (I : Inv X pins σ H s) (hH : Rd H l (.lst xs)) :
    xs.length ≤ sizeLine ∧ ∃ (its : List Value) (n : Nat), Vals xs its ∧ xs.length = its.length ∧ s.heap.get? l = some { cls := .type "list", data := .seq its.toArray n } := by
  obtain ⟨z, its, n, r, e⟩ := hH.ok I.hok
  exact ⟨z, its, n, r, r.length, e⟩
def rCatR : R2 := fun x y H Q => ∃ l b xs zs, x = .ref l ∧ y = .ref b ∧ Rd H l (.lst xs) ∧ Rd H b (.lst zs) ∧ xs.length + zs.length ≤ sizeLine ∧ ∀ p, H p = none → Q (.ref p) (upd H p (.lst (xs ++ zs)))
theorem op_catR : OpR X (binaryOp .Add) rCatR := by
  intro pins s σ H x y v u Q I rx ry h
  obtain ⟨l, b, xs, zs, rfl, rfl, hH, hB, hz, q⟩ := h
  cases rx
  cases ry
  obtain ⟨z, its, n, r, hl, e⟩ := Inv.lstR I hH
  obtain ⟨z2, its2, n2, r2, hl2, e2⟩ := Inv.lstR I hB
  refine PySem.P.add_list e e2 ?_ (by rw [List.size_toArray, List.size_toArray]; omega)
  have ea : its.toArray ++ its2.toArray = (its ++ its2).toArray := by simp
  rw [ea]
  exact ⟨.ref _, _, I.lnew (t' := s.toks) (r.append r2) (by rw [List.length_append]; omega), rfl, q _ I.fresh⟩
def rCatT0 (K : PySem.W.Frag) : R2 := fun x y H Q => ∃ a b ys, x = .ref a ∧ y = .ref b ∧ SqT K H a [] ∧ SqT K H b ys ∧ Q (.ref b) H
theorem op_catT0 : OpR X (binaryOp .Add) (rCatT0 X.K) := by
  intro pins s σ H x y v u Q I rx ry h
  obtain ⟨a, b, ys, rfl, rfl, ha, hb, q⟩ := h
  cases rx
  cases ry
  obtain ⟨its, r1, p1, _⟩ := I.tuple ha
  obtain ⟨its2, r2, p2, _⟩ := I.tuple hb
  have ei : its = [] := r1.nil_iff.mpr rfl
  subst ei
  obtain ⟨⟨cls, dd, data, sl⟩, ho, hc, n, hd⟩ := id p1
  obtain ⟨⟨cls2, dd2, data2, sl2⟩, ho2, hc2, n2, hd2⟩ := id p2
  simp only at hc hd hc2 hd2
  subst hc hd hc2 hd2
  exact concat_meets ⟨_, ho, rfl⟩ ⟨_, ho2, rfl⟩ noFill_tuple_add seq_tuple_add PySem.F.slot_tuple_add PySem.F.entry_tuple_add (PySem.F.args_tuple_add_2 _ _)
      (tuple_addW0 a b ([] : List Value).toArray its2.toArray n n2 dd dd2 sl sl2 (by simp)) ⟨ho, ho2, ⟨.ref b, H, I, rfl, q⟩⟩
theorem sizeL : sizeLine = big := by rw [sizeLine_eq]; rfl
theorem q_add (ha : PEr X a f) (hb : PEr X b g) : PEv X (.BinOp a .Add b pos) (op2 oAdd f g) :=
  PE_imp (pe_op (op_add.or (op_add_str.or (op_catT0.or (op_catT.or op_catR)))) ha hb) (op2_imp (by
    intro O F H x y t vx vy Q d rx ry e k
    unfold oAdd at e
    split at e
    · cases e
      rw [rx.int, ry.int]
      exact .inl ⟨_, _, rfl, rfl, k _ F H (Ext.refl d) (by simp [Rep])⟩
    · split at e
      next hz =>
        cases e
        rw [rx.str, ry.str]
        exact .inr (.inl ⟨_, _, rfl, rfl, by rw [sizeL]; exact hz, k _ F H (Ext.refl d) (by simp [Rep])⟩)
      next => cases e
    · split at e
      next xs ys hz =>
        cases e
        obtain ⟨ax, vs, rfl, hs, hr⟩ := rx.tup
        obtain ⟨ay, ws, rfl, hs', hr'⟩ := ry.tup
        cases xs with
        | nil =>
          simp only [RepL] at hr
          subst hr
          refine .inr (.inr (.inl ⟨_, _, _, rfl, rfl, hs, hs', k _ F H (Ext.refl d) ?_⟩))
          simp only [Rep]
          exact ⟨_, _, rfl, hs', by simpa using hr'⟩
        | cons x0 xr =>
          refine .inr (.inr (.inr (.inl ⟨_, _, _, _, rfl, rfl, hs, hs', ?_, ?_, fun e0 => ?_, fun e0 p hp => ?_⟩)))
          · intro z
            subst z
            have := hr.length
            simp at this
          · rw [sizeL, ← hr.length, ← hr'.length]
            exact hz
          · refine k _ F H (Ext.refl d) ?_
            subst e0
            have e1 : ys = [] := List.eq_nil_of_length_eq_zero (by rw [hr'.length]; rfl)
            subst e1
            simp only [Rep]
            exact ⟨_, _, rfl, hs, by simpa using hr⟩
          · have x1 := Ext.laid (o := .tup (vs ++ ws)) d hp
            refine k _ F _ x1 ?_
            simp only [Rep]
            exact ⟨p, _, rfl, SqT.of upd_same, (hr.append hr').ext x1⟩
      next => cases e
    · split at e
      next xs ys hz =>
        cases e
        obtain ⟨ax, vs, rfl, hs, hr⟩ := rx.lst
        obtain ⟨ay, ws, rfl, hs', hr'⟩ := ry.lst
        refine .inr (.inr (.inr (.inr ⟨_, _, _, _, rfl, rfl, hs, hs', by rw [sizeL, ← hr.length, ← hr'.length]; exact hz, fun p hp => ?_⟩)))
        have x1 := Ext.laidF (o := .lst (vs ++ ws)) d hp
        refine k _ _ _ x1 ?_
        simp only [Rep]
        exact ⟨p, _, rfl, .inr rfl, .inl upd_same, (hr.append hr').ext x1⟩
      next => cases e
    · cases e))
def rExtendR : V → List V → Hp → VK → Prop := fun x vs H Q => ∃ l b xs zs, x = .ref l ∧ vs = [.ref b] ∧ H l = some (.lst xs) ∧ Rd H b (.lst zs) ∧ xs.length + zs.length ≤ sizeLine ∧ Q .non (upd H l (.lst (xs ++ zs)))
theorem mt_extendR : MtM X "list.extend" rExtendR := by
  intro pins s σ H x vs v us Q I rx rv h
  obtain ⟨l, b, xs, zs, rfl, rfl, hH, hB, hz, q⟩ := h
  cases rx
  obtain ⟨u, rfl, ru⟩ := rv.one
  cases ru
  obtain ⟨z, its, n, r, hl, e⟩ := I.lstM hH
  obtain ⟨z2, its2, n2, r2, hl2, e2⟩ := Inv.lstR I hB
  have hsz : its.toArray.size + its2.toArray.size ≤ sizeLine := by rw [List.size_toArray, List.size_toArray]; omega
  have hlong : ¬ (!its.toArray.isEmpty && Builtin.List.listTooLong (its.toArray.size + its2.toArray.size)) = true := by
    rw [notLongL hsz, Bool.and_false]
    exact Bool.false_ne_true
  refine call_meets F.slot_list_extend ⟨_, e, rfl⟩ F.entry_list_extend (F.args_list_extend_2 _ _)
    (AutoSeq1.list_extend_list_list_0 l its.toArray n b its2.toArray n2 hlong (by rw [List.size_toArray]; omega) (by omega)) ⟨e, e2, ?_⟩
  refine ⟨.non, _, I.lset (its' := its ++ its2) hH e (by simp) (r.append r2) ?_, rfl, q⟩
  rw [List.length_append]
  omega
theorem q_sub (ha : PEr X a f) (hb : PEr X b g) : PEv X (.BinOp a .Sub b pos) (op2 oSub f g) :=
  PE_imp (pe_op op_sub ha hb) (op2_imp (by
    intro O F H x y t vx vy Q d rx ry e k
    unfold oSub at e
    split at e
    · cases e
      rw [rx.int, ry.int]
      exact ⟨_, _, rfl, rfl, k _ F H (Ext.refl d) (by simp [Rep])⟩
    · cases e))
theorem q_mul (ha : PEr X a f) (hb : PEr X b g) : PEv X (.BinOp a .Mult b pos) (op2 oMul f g) :=
  PE_imp (pe_op op_mul ha hb) (op2_imp (by
    intro O F H x y t vx vy Q d rx ry e k
    unfold oMul at e
    split at e
    · split at e
      next hm =>
        cases e
        rw [rx.int, ry.int]
        refine ⟨_, _, rfl, rfl, ?_, k _ F H (Ext.refl d) (by simp [Rep])⟩
        simpa [mulOk, CMul] using hm
      next => cases e
    · cases e))
theorem q_div (ha : PEr X a f) (hb : PEr X b g) : PEv X (.BinOp a .FloorDiv b pos) (op2 oDiv f g) :=
  PE_imp (pe_op op_fdiv ha hb) (op2_imp (by
    intro O F H x y t vx vy Q d rx ry e k
    unfold oDiv at e
    split at e
    · split at e
      next hm =>
        cases e
        rw [rx.int, ry.int]
        exact ⟨_, _, rfl, rfl, hm, k _ F H (Ext.refl d) (by simp [Rep])⟩
      next => cases e
    · cases e))
theorem q_mod (ha : PEr X a f) (hb : PEr X b g) : PEv X (.BinOp a .Mod b pos) (op2 oMod f g) :=
  PE_imp (pe_op op_mod ha hb) (op2_imp (by
    intro O F H x y t vx vy Q d rx ry e k
    unfold oMod at e
    split at e
    · split at e
      next hm =>
        cases e
        rw [rx.int, ry.int]
        exact ⟨_, _, rfl, rfl, hm, k _ F H (Ext.refl d) (by simp [Rep])⟩
      next => cases e
    · cases e))
theorem atZ_atI {α : Type} (xs : List α) (i : Int) : atZ xs i = atI xs i := rfl
theorem q_ix (ha : PEr X a f) (hb : PEr X b g) (hs : PlainIx b := by intro _ _; rfl) : PEv X (.Subscript a b pos) (op2 oIx f g) :=
  PE_imp (pe_ix ix_seq ha hb hs) (op2_imp (by
    intro O F H x y t vx vy Q d rx ry e k
    unfold oIx at e
    split at e
    · obtain ⟨ax, vs, rfl, hs, hr⟩ := rx.tup
      rw [ry.int]
      simp only [atZ, Option.bind_eq_some_iff] at e
      obtain ⟨j, hj, et⟩ := e
      obtain ⟨v, hv, rv⟩ := hr.get et
      refine .inr (.inl ⟨_, _, _, v, rfl, rfl, hs, ?_, k _ F H (Ext.refl d) rv⟩)
      rw [hr.length] at hj
      show (ixN _ _).bind _ = _
      rw [show ixN vs.length _ = some j from hj]
      exact hv
    · obtain ⟨ax, vs, rfl, hs, hr⟩ := rx.lst
      rw [ry.int]
      simp only [atZ, Option.bind_eq_some_iff] at e
      obtain ⟨j, hj, et⟩ := e
      obtain ⟨v, hv, rv⟩ := hr.get et
      refine .inl ⟨_, _, _, v, rfl, rfl, .inl hs, ?_, k _ F H (Ext.refl d) rv⟩
      rw [hr.length] at hj
      show (ixN _ _).bind _ = _
      rw [show ixN vs.length _ = some j from hj]
      exact hv
    · split at e
      next hz =>
        rw [rx.str, ry.int]
        simp only [Option.map_eq_some_iff] at e
        obtain ⟨c, hc, rfl⟩ := e
        exact .inr (.inr ⟨_, _, c, rfl, rfl, by rw [sizeL]; exact hz, hc, k _ F H (Ext.refl d) (by simp [Rep])⟩)
      next => cases e
    · cases e))
end
end D
end
section
set_option linter.all false
set_option Elab.async false
set_option maxRecDepth 100000
set_option autoImplicit false
namespace D
open PySem PySem.Spec PyProof.Rows L2

/-! ### statements -/
def DO (K : PySem.W.Frag) (F₀ : Addr → Prop) (H₀ : Hp) (O F : Addr → Prop) (H : Hp) (D : Ends) : Out → Prop
  | .nx ε' => ∀ σ' F' H', Kp K F H F' H' → RelE K F₀ H₀ O F' H' ε' σ' → D.nx σ' H'
  | .rt t => ∀ v F' H', Ext F₀ H₀ F' H' → Rep K F' H' t v → D.rt v H'
  | .bk ε' => ∀ σ' F' H', Kp K F H F' H' → RelE K F₀ H₀ O F' H' ε' σ' → D.bk σ' H'
  | .ct ε' => ∀ σ' F' H', Kp K F H F' H' → RelE K F₀ H₀ O F' H' ε' σ' → D.ct σ' H'
def tS (K : PySem.W.Frag) (g : Fs) : TS := fun D σ H => ∃ F₀ H₀ O F ε o, RelE K F₀ H₀ O F H ε σ ∧ g ε = some o ∧ DO K F₀ H₀ O F H D o
abbrev PSt (X : Cx) (s : Stmt) (g : Fs) : Prop := PS X s (tS X.K g)
abbrev PBt (X : Cx) (s : List Stmt) (g : Fs) : Prop := PSs X s (tS X.K g)
theorem DO.kp {K : PySem.W.Frag} {F₀ O F F1 : Addr → Prop} {H₀ H H1 : Hp} {D : Ends} {o : Out} (h : DO K F₀ H₀ O F H D o) (x : Kp K F H F1 H1) : DO K F₀ H₀ O F1 H1 D o := by
  cases o with
  | nx ε => exact fun σ' F' H' k r => h σ' F' H' (x.trans k) r
  | rt t => exact h
  | bk ε => exact fun σ' F' H' k r => h σ' F' H' (x.trans k) r
  | ct ε => exact fun σ' F' H' k r => h σ' F' H' (x.trans k) r
section
variable {X : Cx} {e a b c : Expr} {f : Fe} {g g' : Fs} {ft : Ft} {st : Stmt} {rest : List Stmt} {pos : Pos}
theorem b_nil : PBt X [] skip := PSs_imp pss_nil fun D σ H ⟨F₀, H₀, O, F, ε, o, r, e, k⟩ => by
  cases e
  exact k σ F H Kp.refl r
theorem b_one (h : PSt X st g) : PBt X [st] g := pss_one h
theorem b_cons (h1 : PSt X st g) (h2 : PBt X rest g') : PBt X (st :: rest) (seq g g') := PSs_imp (pss_cons h1 h2) fun D σ H ⟨F₀, H₀, O, F, ε, o, r, e, k⟩ => by
  simp only [seq, Option.bind_eq_some_iff] at e
  obtain ⟨o1, e1, e2⟩ := e
  refine ⟨F₀, H₀, O, F, ε, o1, r, e1, ?_⟩
  cases o1 with
  | nx ε' => exact fun σ' F' H' x r' => ⟨F₀, H₀, O, F', ε', o, r', e2, k.kp x⟩
  | rt t =>
    cases e2
    exact k
  | bk ε' =>
    cases e2
    exact k
  | ct ε' =>
    cases e2
    exact k
theorem s_pass : PSt X (.Pass pos) skip := PS_imp ps_pass fun D σ H ⟨F₀, H₀, O, F, ε, o, r, e, k⟩ => by
  cases e
  exact k σ F H Kp.refl r
theorem s_brk : PSt X (.Break pos) brk := PS_imp ps_break fun D σ H ⟨F₀, H₀, O, F, ε, o, r, e, k⟩ => by
  cases e
  exact k σ F H Kp.refl r
theorem s_cnt : PSt X (.Continue pos) cnt := PS_imp ps_continue fun D σ H ⟨F₀, H₀, O, F, ε, o, r, e, k⟩ => by
  cases e
  exact k σ F H Kp.refl r
theorem s_ret (h : PEr X e f) : PSt X (.Return (some e) pos) (rtn f) := PS_imp (ps_ret h) fun D σ H ⟨F₀, H₀, O, F, ε, o, r, e, k⟩ => by
  simp only [rtn, Option.map_eq_some_iff] at e
  obtain ⟨t, et, rfl⟩ := e
  refine ⟨F₀, H₀, O, F, ε, t, r, et, fun v F' H' x q => ?_⟩
  rcases q with q | ⟨ts, a, vs, rfl, rfl, h0, ha, q⟩
  · exact k v F' H' (r.ent.trans x) q
  · have x2 := r.ent.trans x
    have y : Ext F₀ H₀ (fun b => F' b ∨ b = a) H' := ⟨x2.same, fun b z => .inl (x2.sub b z), fun b z => by
      rcases z with z | rfl
      · exact x2.new b z
      · exact .inr (r.o0 _ h0), fun b z => by
      rcases z with z | rfl
      · exact x2.dom b z
      · exact ⟨_, ha⟩⟩
    refine k _ _ H' y ?_
    simp only [Rep]
    exact ⟨a, vs, rfl, .inr rfl, .inl ha, q.keep (fun _ _ z => z) fun b _ z w => ⟨.inl z, w⟩⟩
theorem s_if (hc : PTt X c ft) (ha : PBt X rest g) {els : List Stmt} (hb : PBt X els g') : PSt X (.If c rest els pos) (iff ft g g') := PS_imp (ps_if hc ha hb) fun D σ H ⟨F₀, H₀, O, F, ε, o, r, e, k⟩ => by
  simp only [iff, Option.bind_eq_some_iff] at e
  obtain ⟨b, eb, e⟩ := e
  refine ⟨F₀, H₀, O, F, ε, b, r, eb, fun F' H' x => ?_⟩
  cases b with
  | true => exact iteT ⟨F₀, H₀, O, F', ε, o, r.ext x, by simpa using e, k.kp x.kp⟩
  | false => exact iteF ⟨F₀, H₀, O, F', ε, o, r.ext x, by simpa using e, k.kp x.kp⟩
theorem s_asg (i : Nat) {x : Str} {pos' : Pos} (hN : X.N.Nodup) (he : PEv X e f) (hi : X.N[i]? = some x := by rfl) (hx : Loc X.env.scope x := by first | exact Or.inl rfl | exact Or.inr rfl)
    (hs : swapsWith e (some (.Name x pos')) pos.line X.env = pure false := by rfl) (hf : X.fn x = true ∨ X.env.scope.names.lookup x = some .local := by first | exact .inl rfl | exact .inr rfl) :
    PSt X (.Assign [.Name x pos'] e pos) (asg i f) := PS_imp (ps_set hN hi hx he hs hf) fun D σ H ⟨F₀, H₀, O, F, ε, o, r, e, k⟩ => by
  simp only [asg, Option.map_eq_some_iff] at e
  obtain ⟨t, et, rfl⟩ := e
  refine ⟨F₀, H₀, O, F, ε, t, r, et, fun v F' H' x q => ?_⟩
  exact k _ F' H' x.kp ((r.ext x).set i q)
theorem s_asgN (i : Nat) {x : Str} {pos' : Pos} (hN : X.N.Nodup) (he : PEn X e f) (hi : X.N[i]? = some x := by rfl) (hx : Loc X.env.scope x := by first | exact Or.inl rfl | exact Or.inr rfl)
    (hs : swapsWith e (some (.Name x pos')) pos.line X.env = pure false := by rfl) (hf : X.fn x = true ∨ X.env.scope.names.lookup x = some .local := by first | exact .inl rfl | exact .inr rfl) :
    PSt X (.Assign [.Name x pos'] e pos) (asgN i f) := PS_imp (ps_set hN hi hx he hs hf) fun D σ H ⟨F₀, H₀, O, F, ε, o, r, e, k⟩ => by
  simp only [asgN, Option.bind_eq_some_iff] at e
  obtain ⟨t, et, e⟩ := e
  split at e
  next ts =>
    cases e
    refine ⟨F₀, H₀, O, F, ε, ts, r, et, fun a vs F' H' x hn nf ha q => ?_⟩
    refine k _ F' H' x.kp ((r.ext x).setOwn i ⟨a, vs, rfl, nf, r.fr a hn, ha, q⟩ fun j u ej oj hj => ?_)
    · obtain ⟨v, h1, h2⟩ := r.val j u ej
      rw [hj] at h1
      cases h1
      cases u with
      | imm t => cases oj
      | own ts =>
        obtain ⟨a', vs', e1, _, _, eh, _⟩ := h2
        cases e1
        rw [hn] at eh
        cases eh
      | dic ts =>
        obtain ⟨a', vs', e1, _, _, eh, _⟩ := h2
        cases e1
        rw [hn] at eh
        cases eh
  next => cases e

/-! ### targets -/
def tG (K : PySem.W.Frag) (g : Fg) : TG := fun v σ H Q => ∃ F₀ H₀ O F ε t ε', RelE K F₀ H₀ O F H ε σ ∧ Rep K F H t v ∧ g t ε = some ε' ∧ ∀ σ', RelE K F₀ H₀ O F H ε' σ' → Q σ' H
def tGs (K : PySem.W.Frag) (gs : List Fg) : TGs := fun vs σ H Q => ∃ F₀ H₀ O F ε ts ε', RelE K F₀ H₀ O F H ε σ ∧ RepL K F H ts vs ∧ gAll gs ts ε = some ε' ∧ ∀ σ', RelE K F₀ H₀ O F H ε' σ' → Q σ' H
abbrev PGt (X : Cx) (e : Expr) (g : Fg) : Prop := PG X e (tG X.K g)
abbrev PGst (X : Cx) (es : List Expr) (gs : List Fg) : Prop := PGs X es (tGs X.K gs)
theorem PG_imp {X : Cx} {e : Expr} {t t' : TG} (h : PG X e t) (k : ∀ v σ H Q, t' v σ H Q → t v σ H Q) : PG X e t' := fun pins s σ H v u Q I r q => h pins s σ H v u Q I r (k v σ H Q q)
theorem PGs_imp {X : Cx} {e : List Expr} {t t' : TGs} (h : PGs X e t) (k : ∀ v σ H Q, t' v σ H Q → t v σ H Q) : PGs X e t' := fun pins s σ H v u Q I r q => h pins s σ H v u Q I r (k v σ H Q q)
theorem g_nm (i : Nat) {x : Str} (hN : X.N.Nodup) (hi : X.N[i]? = some x := by rfl) (hx : Loc X.env.scope x := by first | exact Or.inl rfl | exact Or.inr rfl)
    (hf : X.fn x = true ∨ X.env.scope.names.lookup x = some .local := by first | exact .inl rfl | exact .inr rfl) : PGt X (.Name x pos) (gNm i) := PG_imp (pg_name hN hi hx hf) fun v σ H Q ⟨F₀, H₀, O, F, ε, t, ε', r, q, e, k⟩ => by
  cases e
  exact k _ (r.set i q)
theorem g_nil : PGst X [] [] := PGs_imp pgs_nil fun vs σ H Q ⟨F₀, H₀, O, F, ε, ts, ε', r, q, e, k⟩ => by
  cases ts with
  | nil =>
    cases e
    simp only [RepL] at q
    exact ⟨q, k σ r⟩
  | cons t ts => cases e
theorem g_cons {es : List Expr} {g : Fg} {gs : List Fg} (h1 : PGt X e g) (h2 : PGst X es gs) (hs : (assignEach (e :: es) X.env).map (·.2) = assign e X.env :: (assignEach es X.env).map (·.2) := by rfl) : PGst X (e :: es) (g :: gs) :=
  PGs_imp (pgs_cons h1 h2 hs) fun vs σ H Q ⟨F₀, H₀, O, F, ε, ts, ε', r, q, e, k⟩ => by
  cases ts with
  | nil => cases e
  | cons t ts =>
    simp only [gAll, Option.bind_eq_some_iff] at e
    obtain ⟨ε1, e1, e2⟩ := e
    simp only [RepL] at q
    obtain ⟨v, vr, rfl, q1, q2⟩ := q
    exact ⟨v, vr, rfl, F₀, H₀, O, F, ε, t, ε1, r, q1, e1, fun σ1 r1 => ⟨F₀, H₀, O, F, ε1, ts, ε', r1, q2, e2, k⟩⟩
theorem gAll_len : ∀ {gs : List Fg} {ts : List T} {ε ε' : Ev}, gAll gs ts ε = some ε' → ts.length = gs.length
  | [], [], _, _, _ => rfl
  | [], _ :: _, _, _, h => by cases h
  | _ :: _, [], _, _, h => by cases h
  | g :: gs, t :: ts, ε, ε', h => by
    simp only [gAll, Option.bind_eq_some_iff] at h
    obtain ⟨ε1, _, h⟩ := h
    simp [gAll_len h]
theorem g_tup {es : List Expr} {k : Nat} {gs : List Fg} (h : PGst X es gs) (hc : X.calm = true := by rfl) (hn : (assignEach es X.env).length = gs.length := by rfl) (hst : (assignEach es X.env).findIdx? (·.1) = none := by rfl) :
    PGt X (.Tuple es k pos) (gTu gs) := PG_imp (pg_tup hc h hn hst) fun v σ H Q ⟨F₀, H₀, O, F, ε, t, ε', r, q, e, k⟩ => by
  unfold gTu at e
  split at e
  next ts =>
    simp only [Rep] at q
    obtain ⟨a, vs, rfl, hs, hr⟩ := q
    exact ⟨a, vs, rfl, hs, by rw [← hr.length]; exact gAll_len e, F₀, H₀, O, F, ε, ts, ε', r, hr, e, k⟩
  next => cases e
theorem s_asgT {tg : Expr} {g : Fg} (he : PEv X e f) (hg : PGt X tg g) (hs : swapsWithSole [tg] e pos.line X.env = pure false := by rfl) (hw : swappedStores [tg] e X.env = pure none := by rfl)
    (h1 : (assignEach [tg] X.env).map (·.2) = [assign tg X.env] := by rfl) : PSt X (.Assign [tg] e pos) (asgT g f) := PS_imp (ps_asg he hg hs hw h1) fun D σ H ⟨F₀, H₀, O, F, ε, o, r, e, k⟩ => by
  simp only [asgT, Option.bind_eq_some_iff, Option.map_eq_some_iff] at e
  obtain ⟨t, et, ε', eg, rfl⟩ := e
  refine ⟨F₀, H₀, O, F, ε, t, r, et, fun v F' H' x q => ?_⟩
  exact ⟨F₀, H₀, O, F', ε, t, ε', r.ext x, q, eg, fun σ' r' => k σ' F' H' x.kp r'⟩

/-! ### what is walked -/
structure ItOk (K : PySem.W.Frag) (J : It) (F1 : Addr → Prop) (H1 : Hp) (ts : List T) : Prop where
  go : ∀ i F H t, Kp K F1 H1 F H → (∀ a, F a → ∃ o, H a = some o) → ts[i]? = some t → J.go i H
  yld : ∀ i F H t x H', Kp K F1 H1 F H → (∀ a, F a → ∃ o, H a = some o) → ts[i]? = some t → J.yld i H x H' → ∃ F', Ext F H F' H' ∧ Rep K F' H' t x
  stop : ∀ i F H, Kp K F1 H1 F H → ts.length ≤ i → J.stop i H
def tI (K : PySem.W.Frag) (f : Fi) : TI := fun σ H R => ∃ F₀ H₀ O F ε ts, RelE K F₀ H₀ O F H ε σ ∧ f ε = some ts ∧ ∀ J F' H', Ext F H F' H' → ItOk K J F' H' ts → R J H'
abbrev PIt (X : Cx) (tg e : Expr) (f : Fi) : Prop := PI X tg e (tI X.K f)
theorem PI_imp {X : Cx} {tg e : Expr} {t t' : TI} (h : PI X tg e t) (k : ∀ σ H R, t' σ H R → t σ H R) : PI X tg e t' := fun pins s σ H R I q => h pins s σ H R I (k σ H R q)
theorem itOk_list {K : PySem.W.Frag} {a : Addr} {F1 : Addr → Prop} {H1 : Hp} {ts : List T} {vs : List V} (fa : F1 a) (hr : Rd H1 a (.lst vs)) (q : RepL K F1 H1 ts vs) : ItOk K (Itl K a) F1 H1 ts where
  go := fun i F H t kp d e => by
    obtain ⟨v, h1, _⟩ := q.get e
    exact ⟨vs, v, .inl (kp.lst _ _ fa hr).2, h1⟩
  yld := fun i F H t x H' kp d e y => by
    obtain ⟨rfl, y⟩ := y
    obtain ⟨v, h1, h2⟩ := (q.kp kp).get e
    have := y vs (.inl (kp.lst _ _ fa hr).2)
    rw [h1] at this
    cases this
    exact ⟨F, Ext.refl d, h2⟩
  stop := fun i F H kp hl => ⟨vs, .inl (kp.lst _ _ fa hr).2, by rw [← q.length]; exact hl⟩
theorem itOk_tup {K : PySem.W.Frag} {a : Addr} {F1 : Addr → Prop} {H1 : Hp} {ts : List T} {vs : List V} (hr : SqT K H1 a vs) (q : RepL K F1 H1 ts vs) : ItOk K (Itt K a) F1 H1 ts where
  go := fun i F H t kp d e => by
    obtain ⟨v, h1, _⟩ := q.get e
    exact ⟨vs, v, kp.tup _ _ hr, h1⟩
  yld := fun i F H t x H' kp d e y => by
    obtain ⟨rfl, y⟩ := y
    obtain ⟨v, h1, h2⟩ := (q.kp kp).get e
    have := y vs (kp.tup _ _ hr)
    rw [h1] at this
    cases this
    exact ⟨F, Ext.refl d, h2⟩
  stop := fun i F H kp hl => ⟨vs, kp.tup _ _ hr, by rw [← q.length]; exact hl⟩
theorem rng_len (lo hi : Int) : (rng lo hi).length = (hi - lo).toNat := by simp [rng]
theorem itOk_rng {K : PySem.W.Frag} {F1 : Addr → Prop} {H1 : Hp} (lo hi : Int) : ItOk K (Itr lo (hi - lo).toNat) F1 H1 (rng lo hi) where
  go := fun i F H t kp d e => by
    have h := (List.getElem?_eq_some_iff.mp e).1
    rw [rng_len] at h
    exact h
  yld := fun i F H t x H' kp d e y => by
    obtain ⟨rfl, rfl⟩ := y
    refine ⟨F, Ext.refl d, ?_⟩
    have h := (List.getElem?_eq_some_iff.mp e).1
    rw [rng_len] at h
    unfold rng at e
    rw [List.getElem?_map, List.getElem?_range h] at e
    simp at e
    subst e
    simp [Rep]
  stop := fun i F H kp hl => by
    rw [rng_len] at hl
    exact hl
/-- a tuple or a list -/
def iSq (K : PySem.W.Frag) (tl : TE) : TI := fun σ H R => tl σ H fun x H1 => ∃ a, x = .ref a ∧ (((∃ xs, SqL K H1 a xs) ∧ R (Itl K a) H1) ∨ ((∃ xs, SqT K H1 a xs) ∧ R (Itt K a) H1))
theorem pi_sq {tg l : Expr} {tl : TE} (hl : PE X l tl) : PI X tg l (iSq X.K tl) := by
  intro pins s σ H R I h
  refine thn (hl pins s σ H _ I h) fun v s1 ⟨x, H1, I1, r1, a, e1, q⟩ => ?_
  subst e1
  cases r1
  have fp : ∀ b ∈ [s1.heap.objs.size], FpOk X pins H1 b := fun b hb => by
    have e : b = s1.heap.objs.size := by simpa using hb
    subst e
    exact I1.fpOk (Nat.le_refl _) (I1.hok.fresh (Nat.le_refl _))
  rcases q with ⟨⟨xs, hq⟩, q⟩ | ⟨⟨xs, hq⟩, q⟩
  · obtain ⟨its, rv, p, hz⟩ := I1.list hq
    refine wpAny_pyIter_list p.isList ?_
    exact ⟨s1.heap.objs.size, [s1.heap.objs.size], _, _, H1, rfl, I1.kept (t' := s1.toks) fun b o e => Heap.get?_push_of_some _ e, turn_list a _, ⟨_, Heap.get?_push_size _ rfl, rfl, rfl⟩, fp, q⟩
  · obtain ⟨its, rv, p, hz⟩ := I1.tuple hq
    refine wpAny_pyIter_tuple (show s1.heap.IsTuple a its.toArray from p) ?_
    exact ⟨s1.heap.objs.size, [s1.heap.objs.size], _, _, H1, rfl, I1.kept (t' := s1.toks) fun b o e => Heap.get?_push_of_some _ e, turn_tuple a _, ⟨_, Heap.get?_push_size _ rfl, rfl, rfl⟩, fp, q⟩
theorem i_seq {tg l : Expr} {f : Fe} (hl : PEv X l f) : PIt X tg l (itSeq f) := PI_imp (pi_sq hl) fun σ H R ⟨F₀, H₀, O, F, ε, ts, r, e, k⟩ => by
  simp only [itSeq, Option.bind_eq_some_iff] at e
  obtain ⟨t, et, e⟩ := e
  split at e
  · cases e
    refine ⟨F₀, H₀, O, F, ε, _, r, et, fun v F' H' x q => ?_⟩
    simp only [Rep] at q
    obtain ⟨a, vs, rfl, hs, hr⟩ := q
    exact ⟨a, rfl, .inr ⟨⟨vs, hs⟩, k _ F' H' x (itOk_tup hs hr)⟩⟩
  · cases e
    refine ⟨F₀, H₀, O, F, ε, _, r, et, fun v F' H' x q => ?_⟩
    simp only [Rep] at q
    obtain ⟨a, vs, rfl, fa, hs, hr⟩ := q
    exact ⟨a, rfl, .inl ⟨⟨vs, .inl hs⟩, k _ F' H' x (itOk_list fa hs hr)⟩⟩
  · cases e
theorem i_rng1 {tg a : Expr} {f : Fe} {p pos : Pos} (hm : X.mg "range" = none) (ha : PEr X a f) (hg : Gl X "range" := by rfl) (hs : starEach [a] X.env = [(false, eval a X.env)] := by rfl) (hs2 : starEach [a] X.env = (false, eval a X.env) :: starEach [] X.env := by rfl) :
    PIt X tg (.Call (.Name "range" p) [a] [] pos) (itRng1 f) := PI_imp (pi_range1 hg hm (pa_cons ha pa_nil hs2) hs) fun σ H R ⟨F₀, H₀, O, F, ε, ts, r, e, k⟩ => by
  simp only [itRng1, Option.bind_eq_some_iff] at e
  obtain ⟨t, et, e⟩ := e
  split at e
  next j =>
    split at e
    next hz =>
      cases e
      refine ⟨F₀, H₀, O, F, ε, _, r, et, fun v F' H' x q => ⟨j, by rw [q.int], ?_, ?_, k _ F' H' x (by simpa using itOk_rng 0 j)⟩⟩
      · simp [small62] at hz
        omega
      · simp [small62] at hz
        omega
    next => cases e
  next => cases e
theorem i_rng2 {tg a b : Expr} {f g : Fe} {p pos : Pos} (hm : X.mg "range" = none) (ha : PEr X a f) (hb : PEr X b g) (hg : Gl X "range" := by rfl) (hs : starEach [a, b] X.env = [(false, eval a X.env), (false, eval b X.env)] := by rfl) (hs2 : starEach [b] X.env = [(false, eval b X.env)] := by rfl)
    (hs3 : starEach [a, b] X.env = (false, eval a X.env) :: starEach [b] X.env := by rfl) (hs4 : starEach [b] X.env = (false, eval b X.env) :: starEach [] X.env := by rfl) :
    PIt X tg (.Call (.Name "range" p) [a, b] [] pos) (itRng2 f g) := PI_imp (pi_range2 hg hm (pa_cons ha (pa_cons hb pa_nil hs4) hs3) hs hs2) fun σ H R ⟨F₀, H₀, O, F, ε, ts, r, e, k⟩ => by
  simp only [itRng2, Option.bind_eq_some_iff] at e
  obtain ⟨t, et, u, eu, e⟩ := e
  split at e
  next i j =>
    split at e
    next hz =>
      cases e
      refine ⟨F₀, H₀, O, F, ε, _, r, et, fun v F1 H1 x1 q1 => ⟨F₀, H₀, O, F1, ε, _, r.ext x1, eu, fun w F2 H2 x2 q2 => ⟨i, j, by rw [q1.int, q2.int], ?_, k _ F2 H2 (x1.trans x2) (itOk_rng i j)⟩⟩⟩
      simp [small62] at hz
      omega
    next => cases e
  next => cases e

/-! ### loops -/
theorem s_for {tg iter : Expr} {body : List Stmt} {it : Fi} {gg : Fg} {bb : Fs} (hp : PassesOwn (model X.prog X.w) X.A X.env X.xe) (hi : PIt X tg iter it) (hg : PGt X tg gg) (hb : PBt X body bb) (hc : X.calm = true := by rfl)
    (hs : ∀ x, foldedSetIterable iter X.env x = pure x := by intro _; rfl) : PSt X (.For tg iter body [] pos) (for_ it gg bb) := PS_imp (ps_for hp hc hi hg hb hs) fun D σ H ⟨F₀, H₀, O, F, ε, o, r, e, k⟩ => by
  simp only [for_, Option.bind_eq_some_iff] at e
  obtain ⟨ts, et, e⟩ := e
  refine ⟨F₀, H₀, O, F, ε, ts, r, et, fun J F1 H1 x1 ok => ?_⟩
  refine ⟨fun i m σ' H' => m = ts.length - i ∧ i ≤ ts.length ∧ ∃ F' ε' , Kp X.K F1 H1 F' H' ∧ RelE X.K F₀ H₀ O F' H' ε' σ' ∧ forL gg bb (ts.drop i) ε' = some o, ⟨_, rfl, Nat.zero_le _, F1, ε, Kp.refl, r.ext x1, by simpa using e⟩, ?_⟩
  rintro i m σ' H' ⟨rfl, hi', F', ε', kp, r', e'⟩
  by_cases hlt : i < ts.length
  · have hd : ts.drop i = ts[i] :: ts.drop (i + 1) := List.drop_eq_getElem_cons hlt
    have hg' : ts[i]? = some ts[i] := List.getElem?_eq_getElem hlt
    rw [hd] at e'
    simp only [forL, Option.bind_eq_some_iff] at e'
    obtain ⟨ε1, eg, o1, eb, e'⟩ := e'
    refine .inr ⟨ok.go i F' H' _ kp r'.dom hg', fun σ2 H2 => ∃ m', m' < ts.length - i ∧ (m' = ts.length - (i + 1) ∧ i + 1 ≤ ts.length ∧ ∃ F2 ε2, Kp X.K F1 H1 F2 H2 ∧ RelE X.K F₀ H₀ O F2 H2 ε2 σ2 ∧ forL gg bb (ts.drop (i + 1)) ε2 = some o), fun _ _ z => z, fun x H2 y => ?_⟩
    obtain ⟨F2, x2, rx⟩ := ok.yld i F' H' _ x H2 kp r'.dom hg' y
    refine ⟨F₀, H₀, O, F2, ε', _, ε1, r'.ext x2, rx, eg, fun σ3 r3 => ⟨F₀, H₀, O, F2, ε1, o1, r3, eb, ?_⟩⟩
    have kp2 : Kp X.K F1 H1 F2 H2 := kp.trans x2.kp
    cases o1 with
    | nx ε2 => exact fun σ4 F4 H4 k4 r4 => ⟨_, by omega, rfl, hlt, F4, ε2, kp2.trans k4, r4, e'⟩
    | ct ε2 => exact fun σ4 F4 H4 k4 r4 => ⟨_, by omega, rfl, hlt, F4, ε2, kp2.trans k4, r4, e'⟩
    | bk ε2 =>
      cases e'
      exact fun σ4 F4 H4 k4 r4 => k σ4 F4 H4 ((x1.kp.trans kp2).trans k4) r4
    | rt t =>
      cases e'
      exact k
  · have hd : ts.drop i = [] := List.drop_eq_nil_of_le (by omega)
    rw [hd] at e'
    cases e'
    exact .inl ⟨ok.stop i F' H' kp (by omega), k σ' F' H' (x1.kp.trans kp) r'⟩
theorem s_while {body : List Stmt} {bb : Fs} (n : Nat) (hp : PassesOwn (model X.prog X.w) X.A X.env X.xe) (hc : PTt X c ft) (hb : PBt X body bb) : PSt X (.While c body [] pos) (whl ft bb n) := PS_imp (ps_while hp hc hb) fun D σ H ⟨F₀, H₀, O, F, ε, o, r, e, k⟩ => by
  refine ⟨fun m σ' H' => ∃ F' ε', Kp X.K F H F' H' ∧ RelE X.K F₀ H₀ O F' H' ε' σ' ∧ whl ft bb m ε' = some o, ⟨n, F, ε, Kp.refl, r, e⟩, ?_⟩
  rintro m σ' H' ⟨F', ε', kp, r', e'⟩
  cases m with
  | zero => cases e'
  | succ m =>
    simp only [whl, Option.bind_eq_some_iff] at e'
    obtain ⟨x, ex, e'⟩ := e'
    refine ⟨F₀, H₀, O, F', ε', x, r', ex, fun F1 H1 x1 => ?_⟩
    cases x with
    | false =>
      simp only [Bool.false_eq_true, if_false] at e'
      cases e'
      exact iteF (k σ' F1 H1 (kp.trans x1.kp) (r'.ext x1))
    | true =>
      simp only [if_true, Option.bind_eq_some_iff] at e'
      obtain ⟨o1, eb, e'⟩ := e'
      refine iteT ⟨fun σ2 H2 => ∃ m', m' < m + 1 ∧ ∃ F2 ε2, Kp X.K F H F2 H2 ∧ RelE X.K F₀ H₀ O F2 H2 ε2 σ2 ∧ whl ft bb m' ε2 = some o, fun _ _ z => z, F₀, H₀, O, F1, ε', o1, r'.ext x1, eb, ?_⟩
      have kp2 := kp.trans (x1.kp (K := X.K))
      cases o1 with
      | nx ε2 => exact fun σ4 F4 H4 k4 r4 => ⟨m, by omega, F4, ε2, kp2.trans k4, r4, e'⟩
      | ct ε2 => exact fun σ4 F4 H4 k4 r4 => ⟨m, by omega, F4, ε2, kp2.trans k4, r4, e'⟩
      | bk ε2 =>
        cases e'
        exact fun σ4 F4 H4 k4 r4 => k σ4 F4 H4 (kp2.trans k4) r4
      | rt t =>
        cases e'
        exact k

/-! ### xs.append(e), xs.extend(e), x = xs.pop() -/
/-- an own list's name, for a change -/
def tOwn (K : PySem.W.Frag) (i : Nat) : TE := fun σ H Q => ∃ v, σ[i]? = some (some v) ∧ Q v H
theorem s_app (i : Nat) {x : Str} {px apos cpos : Pos} (he : PEv X e f) (hN : X.N[i]? = some x := by rfl) (hv : Vis X.env.scope x := by first | exact Or.inl rfl | exact Or.inr (Or.inl rfl) | exact Or.inr (Or.inr rfl)) (hd : (x == ("__debug__" : Str)) = false := by decide)
    (hcd : (x == ("__classdict__" : Str)) = false := by decide) (hs1 : starEach [e] X.env = (false, eval e X.env) :: starEach [] X.env := by rfl)
    (hbase : attributeBase (.Name x px) "append" X.env (eval (.Name x px) X.env) = eval (.Name x px) X.env := by rfl)
    (hfew : ((backTo cpos (starEach [e] X.env)).all (fun x => !x.1) && (backToKw cpos (keywordEach [] X.env)).all (fun x => x.1.isSome)
      && decide (([e] : List Expr).length + ([] : List Keyword).length + (if ([] : List Keyword).isEmpty then 0 else 1) < 30)) = true := by rfl)
    (hline : (apos.endLine == cpos.line) = true := by rfl) (hplain : (backTo cpos (starEach [] X.env)).any (·.1) = false := by rfl)
    (hsw : swapsWith (.Call (.Attribute (.Name x px) "append" apos) [e] [] cpos) none pos.line X.env = pure false := by rfl) :
    PSt X (.Expr (.Call (.Attribute (.Name x px) "append" apos) [e] [] cpos) pos) (app i f) :=
  PS_imp (ps_expr (pe_bm PySem.F.plainAttrs_list PySem.F.slot_list_append PySem.F.type_list_append mt_append (pv i hN hv hd hcd) (pa_cons he pa_nil hs1) hbase hfew hline hs1 hplain) hsw) fun D σ H ⟨F₀, H₀, O, F, ε, o, r, e, k⟩ => by
  unfold app at e
  split at e
  next ts he =>
    simp only [Option.bind_eq_some_iff] at e
    obtain ⟨t, et, e⟩ := e
    split at e
    next hz =>
      cases e
      obtain ⟨v, h1, a, vs, rfl, n, h0, hh, hr⟩ := r.val _ _ he
      refine ⟨_, h1, .inl ⟨rfl, _, SqL.of hh⟩, F₀, H₀, O, F, ε, t, r, et, fun v F' H' x q => ?_⟩
      have r1 := r.ext x
      obtain ⟨v1, h1', a1, vs1, e1, n1, h01, hh1, hr1⟩ := r1.val _ _ he
      rw [h1] at h1'
      cases h1'
      cases e1
      refine ⟨a, vs1, v, rfl, rfl, hh1, by rw [sizeL, ← hr1.length]; exact hz, ?_⟩
      obtain ⟨kp, r2⟩ := r1.mut (s' := .own (ts ++ [t])) (o' := .lst (vs1 ++ [v])) he rfl h1 n1 h0 hh1 (.inl ⟨_, rfl⟩) fun kp => ⟨a, _, rfl, n1, h0, upd_same, (hr1.kp kp).append (RepL.cons (q.kp kp) RepL.nil)⟩
      exact k σ F' _ (x.kp.trans kp) r2
    next => cases e
  next => cases e
theorem s_ext (i : Nat) {x : Str} {px apos cpos : Pos} (he : PEr X e f) (hN : X.N[i]? = some x := by rfl) (hv : Vis X.env.scope x := by first | exact Or.inl rfl | exact Or.inr (Or.inl rfl) | exact Or.inr (Or.inr rfl)) (hd : (x == ("__debug__" : Str)) = false := by decide)
    (hcd : (x == ("__classdict__" : Str)) = false := by decide) (hs1 : starEach [e] X.env = (false, eval e X.env) :: starEach [] X.env := by rfl)
    (hbase : attributeBase (.Name x px) "extend" X.env (eval (.Name x px) X.env) = eval (.Name x px) X.env := by rfl)
    (hfew : ((backTo cpos (starEach [e] X.env)).all (fun x => !x.1) && (backToKw cpos (keywordEach [] X.env)).all (fun x => x.1.isSome)
      && decide (([e] : List Expr).length + ([] : List Keyword).length + (if ([] : List Keyword).isEmpty then 0 else 1) < 30)) = true := by rfl)
    (hline : (apos.endLine == cpos.line) = true := by rfl) (hplain : (backTo cpos (starEach [] X.env)).any (·.1) = false := by rfl)
    (hsw : swapsWith (.Call (.Attribute (.Name x px) "extend" apos) [e] [] cpos) none pos.line X.env = pure false := by rfl) :
    PSt X (.Expr (.Call (.Attribute (.Name x px) "extend" apos) [e] [] cpos) pos) (ext i f) :=
  PS_imp (ps_expr (pe_bm PySem.F.plainAttrs_list PySem.F.slot_list_extend PySem.F.type_list_extend mt_extendR (pv i hN hv hd hcd) (pa_cons he pa_nil hs1) hbase hfew hline hs1 hplain) hsw) fun D σ H ⟨F₀, H₀, O, F, ε, o, r, e, k⟩ => by
  unfold ext at e
  split at e
  next ts he =>
    simp only [Option.bind_eq_some_iff] at e
    obtain ⟨t, et, e⟩ := e
    split at e
    next us =>
      split at e
      next hz =>
        cases e
        obtain ⟨v, h1, a, vs, rfl, n, h0, hh, hr⟩ := r.val _ _ he
        refine ⟨_, h1, .inl ⟨rfl, _, SqL.of hh⟩, F₀, H₀, O, F, ε, _, r, et, fun v F' H' x q => ?_⟩
        obtain ⟨b, ws, rfl, hb, hw⟩ := q.lst
        have r1 := r.ext x
        obtain ⟨v1, h1', a1, vs1, e1, n1, h01, hh1, hr1⟩ := r1.val _ _ he
        rw [h1] at h1'
        cases h1'
        cases e1
        refine ⟨a, b, vs1, ws, rfl, rfl, hh1, hb, by rw [sizeL, ← hr1.length, ← hw.length]; exact hz, ?_⟩
        obtain ⟨kp, r2⟩ := r1.mut (s' := .own (ts ++ us)) (o' := .lst (vs1 ++ ws)) he rfl h1 n1 h0 hh1 (.inl ⟨_, rfl⟩) fun kp => ⟨a, _, rfl, n1, h0, upd_same, (hr1.kp kp).append (hw.kp kp)⟩
        exact k σ F' _ (x.kp.trans kp) r2
      next => cases e
    next => cases e
  next => cases e
theorem s_pop (i j : Nat) {x y : Str} {px py apos cpos : Pos} (hN : X.N.Nodup) (hi : X.N[i]? = some x := by rfl) (hx : Loc X.env.scope x := by first | exact Or.inl rfl | exact Or.inr rfl) (hj : X.N[j]? = some y := by rfl)
    (hv : Vis X.env.scope y := by first | exact Or.inl rfl | exact Or.inr (Or.inl rfl) | exact Or.inr (Or.inr rfl)) (hd : (y == ("__debug__" : Str)) = false := by decide) (hcd : (y == ("__classdict__" : Str)) = false := by decide)
    (hbase : attributeBase (.Name y py) "pop" X.env (eval (.Name y py) X.env) = eval (.Name y py) X.env := by rfl) (hline : (apos.endLine == cpos.line) = true := by rfl)
    (hs : swapsWith (.Call (.Attribute (.Name y py) "pop" apos) [] [] cpos) (some (.Name x px)) pos.line X.env = pure false := by rfl) (hf : X.fn x = true ∨ X.env.scope.names.lookup x = some .local := by first | exact .inl rfl | exact .inr rfl) :
    PSt X (.Assign [.Name x px] (.Call (.Attribute (.Name y py) "pop" apos) [] [] cpos) pos) (pop i j) :=
  PS_imp (ps_set hN hi hx (pe_bm0 PySem.F.plainAttrs_list PySem.F.slot_list_pop PySem.F.type_list_pop mt_pop (pv j hj hv hd hcd) hbase hline) hs hf) fun D σ H ⟨F₀, H₀, O, F, ε, o, r, e, k⟩ => by
  unfold pop at e
  split at e
  next ts he =>
    simp only [Option.bind_eq_some_iff] at e
    obtain ⟨t, et, e⟩ := e
    split at e
    next => cases e
    next hij =>
      cases e
      obtain ⟨v, h1, a, vs, rfl, n, h0, hh, hr⟩ := r.val _ _ he
      rw [List.getLast?_eq_getElem?] at et
      obtain ⟨w, hw, rw'⟩ := hr.get et
      refine ⟨_, h1, .inl ⟨rfl, _, SqL.of hh⟩, a, vs, w, rfl, rfl, hh, by rw [← hr.length]; exact hw, ?_⟩
      obtain ⟨kp, r2⟩ := r.mut (s' := .own ts.dropLast) (o' := .lst vs.dropLast) he rfl h1 n h0 hh (.inl ⟨_, rfl⟩) fun kp => ⟨a, _, rfl, n, h0, upd_same, by
        have := (hr.kp kp).take (ts.length - 1)
        rw [← List.dropLast_eq_take, hr.length, ← List.dropLast_eq_take] at this
        exact this⟩
      exact k _ F _ kp (r2.set i (rw'.kp kp))
  next => cases e
end
end D
end
section
set_option linter.all false
set_option Elab.async false
set_option maxRecDepth 100000
set_option autoImplicit false
namespace D
open PySem PySem.Spec PyProof.Rows L2
section
variable {X : Cx} {a b c e : Expr} {es : List Expr} {f g h : Fe} {fs : List Fe} {ft gt : Ft} {pos p : Pos}

/-! ### argument lists -/
theorem a_nilR : PAr X [] [] := PA_imp pa_nil fun σ H Q ⟨F₀, H₀, O, F, ε, ts, r, e, k⟩ => by
  cases e
  exact k [] F H (Ext.refl r.dom) .nil
theorem a_consR (ha : PEr X e f) (hr : PAr X es fs) (hs : starEach (e :: es) X.env = (false, eval e X.env) :: starEach es X.env := by rfl) : PAr X (e :: es) (f :: fs) := PA_imp (pa_cons ha hr hs) fun σ H Q ⟨F₀, H₀, O, F, ε, ts, r, e, k⟩ => by
  simp only [args, Option.bind_eq_some_iff, Option.map_eq_some_iff] at e
  obtain ⟨t, et, us, eu, rfl⟩ := e
  refine ⟨F₀, H₀, O, F, ε, t, r, et, fun v F1 H1 x1 q1 => ⟨F₀, H₀, O, F1, ε, us, r.ext x1, eu, fun vs F2 H2 x2 q2 => ?_⟩⟩
  exact k _ F2 H2 (x1.trans x2) (.cons (q1.ext x2) q2)
theorem a_nilV : PAv X [] [] := PA_imp pa_nil fun σ H Q ⟨F₀, H₀, O, F, ε, ts, r, e, k⟩ => by
  cases e
  exact k [] F H (Ext.refl r.dom) RepL.nil
theorem a_consV (ha : PEv X e f) (hr : PAv X es fs) (hs : starEach (e :: es) X.env = (false, eval e X.env) :: starEach es X.env := by rfl) : PAv X (e :: es) (f :: fs) := PA_imp (pa_cons ha hr hs) fun σ H Q ⟨F₀, H₀, O, F, ε, ts, r, e, k⟩ => by
  simp only [args, Option.bind_eq_some_iff, Option.map_eq_some_iff] at e
  obtain ⟨t, et, us, eu, rfl⟩ := e
  refine ⟨F₀, H₀, O, F, ε, t, r, et, fun v F1 H1 x1 q1 => ⟨F₀, H₀, O, F1, ε, us, r.ext x1, eu, fun vs F2 H2 x2 q2 => ?_⟩⟩
  exact k _ F2 H2 (x1.trans x2) (RepL.cons (q1.ext x2) q2)
theorem q_tup {x1} (h : PAv X es fs) : PEv X (.Tuple es x1 pos) (mkTup fs) := PE_imp (pe_tup h) fun σ H Q ⟨F₀, H₀, O, F, ε, t, r, e, k⟩ => by
  simp only [mkTup, Option.bind_eq_some_iff] at e
  obtain ⟨ts, et, e⟩ := e
  split at e
  next hz =>
    cases e
    refine ⟨F₀, H₀, O, F, ε, ts, r, et, fun vs F1 H1 x1 q1 => ⟨by rw [sizeL, ← q1.length]; exact hz, fun p hp => ?_⟩⟩
    have x2 := Ext.laid (o := .tup vs) x1.dom hp
    refine k _ F1 _ (x1.trans x2) ?_
    simp only [Rep]
    exact ⟨p, vs, rfl, SqT.of upd_same, q1.ext x2⟩
  next => cases e
theorem q_lst (h : PAv X es fs) : PEn X (.List es pos) (mkLst fs) := PE_imp (pe_lst h) fun σ H Q ⟨F₀, H₀, O, F, ε, us, r, e, k⟩ => by
  simp only [mkLst, Option.bind_eq_some_iff] at e
  obtain ⟨ts, et, e⟩ := e
  split at e
  next hz =>
    cases e
    refine ⟨F₀, H₀, O, F, ε, _, r, et, fun vs F1 H1 x1 q1 => ⟨by rw [sizeL, ← q1.length]; exact hz, fun p hp => ?_⟩⟩
    have x2 := Ext.laid (o := .lst vs) x1.dom hp
    refine k p vs F1 _ (x1.trans x2) ?_ ?_ upd_same (q1.ext x2)
    · cases z : H p with
      | none => rfl
      | some w =>
        rw [x1.same p w z] at hp
        cases hp
    · intro fp
      obtain ⟨o, eo⟩ := x1.dom p fp
      rw [hp] at eo
      cases eo
  next => cases e
theorem q_lstV (h : PAv X es fs) : PEv X (.List es pos) (mkLst fs) := n2v (q_lst h) fun ε t e => by
  simp only [mkLst, Option.bind_eq_some_iff] at e
  obtain ⟨ts, et, e⟩ := e
  split at e
  · cases e
    exact ⟨_, rfl⟩
  · cases e

/-! ### a tree as the library reads it -/
mutual
theorem reads_of {F : Addr → Prop} {pins : List (Addr × Obj)} {σ : L2.St} {H : Hp} {s : Shared} (I : Inv X pins σ H s) : ∀ {t : T} {v : V} {u : Value}, Rep X.K F H t v → RelV v u → ∃ as, Reads s.heap u t as
  | .none, v, u, h, r => by
    simp only [Rep] at h
    subst h
    cases r
    exact ⟨_, .none⟩
  | .bool b, v, u, h, r => by
    simp only [Rep] at h
    subst h
    cases r
    exact ⟨_, .bool b⟩
  | .int i, v, u, h, r => by
    simp only [Rep] at h
    subst h
    obtain ⟨t, rfl⟩ := r
    exact ⟨_, .int i t⟩
  | .str x, v, u, h, r => by
    simp only [Rep] at h
    subst h
    obtain ⟨t, rfl⟩ := r
    exact ⟨_, .str x t⟩
  | .dict _, v, u, h, r => by simp [Rep] at h
  | .tuple ts, v, u, h, r => by
    simp only [Rep] at h
    obtain ⟨a, vs, rfl, hs, hr⟩ := h
    cases r
    obtain ⟨its, rv, ⟨o, h1, h2, n, h3⟩, hz⟩ := I.tuple hs
    obtain ⟨as, ra⟩ := readsL_of I hr rv
    exact ⟨_, .tuple h1 h2 h3 (by simpa using ra)⟩
  | .list ts, v, u, h, r => by
    simp only [Rep] at h
    obtain ⟨a, vs, rfl, fa, hs, hr⟩ := h
    cases r
    obtain ⟨z, its, n, rv, hl, e⟩ := Inv.lstR I hs
    obtain ⟨as, ra⟩ := readsL_of I hr rv
    exact ⟨_, .list e rfl rfl (by simpa using ra)⟩
theorem readsL_of {F : Addr → Prop} {pins : List (Addr × Obj)} {σ : L2.St} {H : Hp} {s : Shared} (I : Inv X pins σ H s) : ∀ {ts : List T} {vs : List V} {us : List Value}, RepL X.K F H ts vs → Vals vs us → ∃ as, ReadsAll s.heap us ts as
  | [], vs, us, h, r => by
    simp only [RepL] at h
    subst h
    cases r
    exact ⟨_, .nil⟩
  | t :: ts, vs, us, h, r => by
    simp only [RepL] at h
    obtain ⟨v, vr, rfl, h1, h2⟩ := h
    cases r with
    | cons r1 r2 =>
      obtain ⟨as, q1⟩ := reads_of I h1 r1
      obtain ⟨bs, q2⟩ := readsL_of I h2 r2
      exact ⟨_, .cons q1 q2⟩
end
theorem readsR_of {O F : Addr → Prop} {pins : List (Addr × Obj)} {σ : L2.St} {H : Hp} {s : Shared} (I : Inv X pins σ H s) {t : T} {v : V} {u : Value} (h : RepR X.K O F H t v) (r : RelV v u) : ∃ as, Reads s.heap u t as := by
  rcases h with h | ⟨ts, a, vs, rfl, rfl, h0, ha, h⟩
  · exact reads_of I h r
  · cases r
    obtain ⟨z, its, n, rv, hl, e⟩ := Inv.lstR I (.inl ha)
    obtain ⟨as, ra⟩ := readsL_of I h rv
    exact ⟨_, .list e rfl rfl (by simpa using ra)⟩
theorem okT_ok {t : T} (h : okT t = true) : t.canLay0 = true ∧ t.depth ≤ 60 := by
  simp only [okT, Bool.and_eq_true, decide_eq_true_eq] at h
  exact h
theorem okL_ok {t : List T} (h : okL t = true) : PyData.canLayAll0 t = true ∧ PyData.depthAll t ≤ 60 := by
  simp only [okL, Bool.and_eq_true, decide_eq_true_eq] at h
  exact h
def rCmpT (K : PySem.W.Frag) (n : Bool) : R2 := fun x y H Q => ∃ (O F : Addr → Prop) (s t : T), RepR K O F H s x ∧ RepR K O F H t y ∧ okT s = true ∧ okT t = true ∧ Q (.bl (if n then !PyData.eqv s t else PyData.eqv s t)) H
theorem op_eqT (hu : X.A.units + 64 < cLine) : OpR X (compareOp .Eq) (rCmpT X.K false) := by
  intro pins s σ H x y v u Q I rx ry ⟨O, F, d, t, h1, h2, o1, o2, q⟩
  obtain ⟨as, ra⟩ := readsR_of I h1 rx
  obtain ⟨bs, rb⟩ := readsR_of I h2 ry
  obtain ⟨c1, l1⟩ := okT_ok o1
  obtain ⟨c2, l2⟩ := okT_ok o2
  refine SeqAt.compareEq_reads ra rb c1 c2 (by have := Nat.min_le_left d.depth t.depth; omega) ?_
  exact ⟨.bl _, H, I, rfl, q⟩
theorem op_neT (hu : X.A.units + 64 < cLine) : OpR X (compareOp .NotEq) (rCmpT X.K true) := by
  intro pins s σ H x y v u Q I rx ry ⟨O, F, d, t, h1, h2, o1, o2, q⟩
  obtain ⟨as, ra⟩ := readsR_of I h1 rx
  obtain ⟨bs, rb⟩ := readsR_of I h2 ry
  obtain ⟨c1, l1⟩ := okT_ok o1
  obtain ⟨c2, l2⟩ := okT_ok o2
  refine SeqAt.compareNe_reads ra rb c1 c2 (by have := Nat.min_le_left d.depth t.depth; omega) ?_
  exact ⟨.bl _, H, I, rfl, q⟩
theorem q_cmp {op : CmpOp} {R : R2} {o : T → T → Option T} (ho : OpR X (compareOp op) R) (h2 : Op2 X.K o R) (ha : PEr X a f) (hb : PEr X b g) (hm : behindInMarks op b = false := by first | exact nomark _ | rfl) : PEv X (.Compare a [op] [b] pos) (op2 o f g) := PE_imp (pe_cmpR ho ha hb hm) (op2_imp h2)
theorem t_cmp {op : CmpOp} {R : R2} {o : T → T → Option T} (ho : OpR X (compareOp op) R) (h2 : Op2 X.K o R) (ha : PEr X a f) (hb : PEr X b g) (hm : behindInMarks op b = false := by first | exact nomark _ | rfl) : PTt X (.Compare a [op] [b] pos) (tstB (op2 o f g)) :=
  PT_imp (pt_cmpR ho ha hb hm) fun σ H Q ⟨F₀, H₀, O, F, ε, b, r, e, k⟩ => by
  simp only [tstB, Option.bind_eq_some_iff] at e
  obtain ⟨t, et, e⟩ := e
  split at e
  · cases e
    refine op2_imp h2 σ H _ ⟨F₀, H₀, O, F, ε, _, r, et, fun v F' H' x q => ?_⟩
    simp only [Rep] at q
    exact ⟨_, q, k F' H' x⟩
  · cases e
theorem op2_eq : Op2 X.K oEq (rCmpT X.K false) := by
    intro O F H x y t vx vy Q d rx ry e k
    unfold oEq at e
    split at e
    next hz =>
      cases e
      rw [Bool.and_eq_true] at hz
      exact ⟨O, F, x, y, rx, ry, hz.1, hz.2, k _ F H (Ext.refl d) (by simp [Rep])⟩
    next => cases e
theorem op2_ne : Op2 X.K oNe (rCmpT X.K true) := by
    intro O F H x y t vx vy Q d rx ry e k
    unfold oNe at e
    split at e
    next hz =>
      cases e
      rw [Bool.and_eq_true] at hz
      exact ⟨O, F, x, y, rx, ry, hz.1, hz.2, k _ F H (Ext.refl d) (by simp [Rep])⟩
    next => cases e
def rInT (K : PySem.W.Frag) (n : Bool) : R2 := fun x y H Q => ∃ (O F : Addr → Prop) (s : T) (ts : List T), RepR K O F H s x ∧ (RepR K O F H (.tuple ts) y ∨ RepR K O F H (.list ts) y) ∧ okT s = true ∧ okL ts = true ∧ Q (.bl (if n then !hasT s ts else hasT s ts)) H
theorem op_inT (hu : X.A.units + 64 < cLine) : OpR X (compareOp .In) (rInT X.K false) := by
  intro pins s σ H x y v u Q I rx ry ⟨O, F, d, ts, h1, h2, o1, o2, q⟩
  obtain ⟨as, ra⟩ := readsR_of I h1 rx
  obtain ⟨c1, l1⟩ := okT_ok o1
  obtain ⟨c2, l2⟩ := okL_ok o2
  have hm := Nat.min_le_left (PyData.depthAll ts) d.depth
  rcases h2 with h2 | h2
  · obtain ⟨bs, rb⟩ := readsR_of I h2 ry
    exact SeqAt.in_tuple_reads rb ra c2 c1 (by omega) ⟨.bl _, H, I, rfl, q⟩
  · obtain ⟨bs, rb⟩ := readsR_of I h2 ry
    exact SeqAt.in_list_reads rb ra c2 c1 (by omega) ⟨.bl _, H, I, rfl, q⟩
theorem op_notInT (hu : X.A.units + 64 < cLine) : OpR X (compareOp .NotIn) (rInT X.K true) := by
  intro pins s σ H x y v u Q I rx ry ⟨O, F, d, ts, h1, h2, o1, o2, q⟩
  obtain ⟨as, ra⟩ := readsR_of I h1 rx
  obtain ⟨c1, l1⟩ := okT_ok o1
  obtain ⟨c2, l2⟩ := okL_ok o2
  have hm := Nat.min_le_left (PyData.depthAll ts) d.depth
  rcases h2 with h2 | h2
  · obtain ⟨bs, rb⟩ := readsR_of I h2 ry
    exact SeqAt.notIn_tuple_reads rb ra c2 c1 (by omega) ⟨.bl _, H, I, rfl, q⟩
  · obtain ⟨bs, rb⟩ := readsR_of I h2 ry
    exact SeqAt.notIn_list_reads rb ra c2 c1 (by omega) ⟨.bl _, H, I, rfl, q⟩
theorem op2_in {n : Bool} : Op2 X.K (oIn n) (rInT X.K n) := by
  intro O F H x y t vx vy Q d rx ry e k
  unfold oIn at e
  split at e
  · split at e
    next hz =>
      cases e
      rw [Bool.and_eq_true] at hz
      exact ⟨O, F, x, _, rx, .inl ry, hz.1, hz.2, k _ F H (Ext.refl d) (by simp [Rep])⟩
    next => cases e
  · split at e
    next hz =>
      cases e
      rw [Bool.and_eq_true] at hz
      exact ⟨O, F, x, _, rx, .inr ry, hz.1, hz.2, k _ F H (Ext.refl d) (by simp [Rep])⟩
    next => cases e
  · cases e

/-! ### order -/
theorem op2_lt : Op2 X.K oLt (fun x y H Q => rI0 (fun i j => .bl (decide (i < j))) x y H Q ∨ ∃ i j, x = .str i ∧ y = .str j ∧ Q (.bl (decide (i.cps.toList < j.cps.toList))) H) := by
    intro O F H x y t vx vy Q d rx ry e k
    unfold oLt at e
    split at e
    · cases e
      rw [rx.int, ry.int]
      exact .inl ⟨_, _, rfl, rfl, k _ F H (Ext.refl d) (by simp [Rep])⟩
    · cases e
      rw [rx.str, ry.str]
      exact .inr ⟨_, _, rfl, rfl, k _ F H (Ext.refl d) (by simp [Rep, strLt])⟩
    · cases e
theorem op_le_str : OpR X (compareOp .LtE) (fun x y H Q => ∃ i j, x = .str i ∧ y = .str j ∧ Q (.bl (!strLt j i)) H) := by
  intro pins s σ H x y v u Q I rx ry ⟨i, j, e1, e2, q⟩
  subst e1 e2
  obtain ⟨t, rfl⟩ := rx
  obtain ⟨t', rfl⟩ := ry
  exact PySem.P.le_str (fin_bl I q (by simp [strLt]))
theorem op_ge_str : OpR X (compareOp .GtE) (fun x y H Q => ∃ i j, x = .str i ∧ y = .str j ∧ Q (.bl (!strLt i j)) H) := by
  intro pins s σ H x y v u Q I rx ry ⟨i, j, e1, e2, q⟩
  subst e1 e2
  obtain ⟨t, rfl⟩ := rx
  obtain ⟨t', rfl⟩ := ry
  exact PySem.P.ge_str (fin_bl I q (by simp [strLt]))
theorem op_gt_str : OpR X (compareOp .Gt) (fun x y H Q => ∃ i j, x = .str i ∧ y = .str j ∧ Q (.bl (strLt j i)) H) := by
  intro pins s σ H x y v u Q I rx ry ⟨i, j, e1, e2, q⟩
  subst e1 e2
  obtain ⟨t, rfl⟩ := rx
  obtain ⟨t', rfl⟩ := ry
  exact PySem.P.gt_str (fin_bl I q (by simp [strLt]))
theorem op2_le : Op2 X.K oLe (fun x y H Q => rI0 (fun i j => .bl (decide (i ≤ j))) x y H Q ∨ ∃ i j, x = .str i ∧ y = .str j ∧ Q (.bl (!strLt j i)) H) := by
  intro O F H x y t vx vy Q d rx ry e k
  unfold oLe at e
  split at e
  · cases e
    rw [rx.int, ry.int]
    exact .inl ⟨_, _, rfl, rfl, k _ F H (Ext.refl d) (by simp [Rep])⟩
  · cases e
    rw [rx.str, ry.str]
    exact .inr ⟨_, _, rfl, rfl, k _ F H (Ext.refl d) (by simp [Rep])⟩
  · cases e
theorem op2_gt : Op2 X.K oGt (fun x y H Q => rI0 (fun i j => .bl (decide (j < i))) x y H Q ∨ ∃ i j, x = .str i ∧ y = .str j ∧ Q (.bl (strLt j i)) H) := by
  intro O F H x y t vx vy Q d rx ry e k
  unfold oGt at e
  split at e
  · cases e
    rw [rx.int, ry.int]
    exact .inl ⟨_, _, rfl, rfl, k _ F H (Ext.refl d) (by simp [Rep])⟩
  · cases e
    rw [rx.str, ry.str]
    exact .inr ⟨_, _, rfl, rfl, k _ F H (Ext.refl d) (by simp [Rep])⟩
  · cases e
theorem op2_ge : Op2 X.K oGe (fun x y H Q => rI0 (fun i j => .bl (decide (j ≤ i))) x y H Q ∨ ∃ i j, x = .str i ∧ y = .str j ∧ Q (.bl (!strLt i j)) H) := by
  intro O F H x y t vx vy Q d rx ry e k
  unfold oGe at e
  split at e
  · cases e
    rw [rx.int, ry.int]
    exact .inl ⟨_, _, rfl, rfl, k _ F H (Ext.refl d) (by simp [Rep])⟩
  · cases e
    rw [rx.str, ry.str]
    exact .inr ⟨_, _, rfl, rfl, k _ F H (Ext.refl d) (by simp [Rep])⟩
  · cases e
/-- a <= b <= c -/
theorem q_leLe (ha : PEr X a f) (hb : PEr X b g) (hc : PEr X c h) (hm : lastMarks [.LtE, .LtE] [b, c] = false := by with_unfolding_all rfl) : PEv X (.Compare a [.LtE, .LtE] [b, c] pos) (chain oLe oLe f g h) :=
  PE_imp (pe_chain (op_le.or op_le_str) (op_le.or op_le_str) ha hb hc hm) fun σ H Q ⟨F₀, H₀, O, F, ε, t, r, e, k⟩ => by
  simp only [chain, Option.bind_eq_some_iff] at e
  obtain ⟨x, ex, y, ey, z, ez, e⟩ := e
  refine ⟨F₀, H₀, O, F, ε, x, r, ex, fun vx F1 H1 x1 rx => ⟨F₀, H₀, O, F1, ε, y, r.ext x1, ey, fun vy F2 H2 x2 ry => ?_⟩⟩
  refine op2_le (X := X) O F2 H2 x y z vx vy _ x2.dom (rx.ext x2) ry ez fun v F3 H3 x3 q3 => ?_
  split at e
  · simp only [Rep] at q3
    subst q3
    simp only [Option.bind_eq_some_iff] at e
    obtain ⟨w, ew, ep⟩ := e
    refine ⟨true, rfl, iteT ⟨F₀, H₀, O, F3, ε, w, ((r.ext x1).ext x2).ext x3, ew, fun vw F4 H4 x4 rw' => ?_⟩⟩
    exact op2_le (X := X) O F4 H4 y w t vy vw _ x4.dom ((ry.ext x3).ext x4) rw' ep fun v F5 H5 x5 q5 => k v F5 H5 ((((x1.trans x2).trans x3).trans x4).trans x5) q5
  · simp only [Rep] at q3
    subst q3
    cases e
    exact ⟨false, rfl, iteF (k _ F3 H3 ((x1.trans x2).trans x3) (by simp [Rep]))⟩
  · cases e

/-! ### one value -/
theorem q_isN {j pos'} (ha : PEr X a f) : PEv X (.Compare a [.Is] [.Constant .none j pos'] pos) (op1 oIsN f) := PE_imp (pe_cmp (pc_isN ha)) fun σ H Q ⟨F₀, H₀, O, F, ε, t, r, e, k⟩ => by
  simp only [op1, Option.bind_eq_some_iff] at e
  obtain ⟨x, ex, e⟩ := e
  cases e
  refine ⟨F₀, H₀, O, F, ε, x, r, ex, fun v F1 H1 x1 rx => k _ F1 H1 x1 ?_⟩
  cases x with
  | none => rw [rx.non]; simp [Rep]
  | bool b => rw [rx.bl]; simp [Rep]
  | int b => rw [rx.int]; simp [Rep]
  | str b => rw [rx.str]; simp [Rep]
  | tuple b => obtain ⟨_, _, e, _⟩ := rx.tup; rw [e]; simp [Rep]
  | list b => obtain ⟨_, _, e, _⟩ := rx.lst; rw [e]; simp [Rep]
  | dict b => rcases rx with rx | ⟨_, _, _, z, _⟩; simp [Rep] at rx; cases z
theorem q_notN {j pos'} (ha : PEr X a f) : PEv X (.Compare a [.IsNot] [.Constant .none j pos'] pos) (op1 oNotN f) := PE_imp (pe_cmp (pc_notN ha)) fun σ H Q ⟨F₀, H₀, O, F, ε, t, r, e, k⟩ => by
  simp only [op1, Option.bind_eq_some_iff] at e
  obtain ⟨x, ex, e⟩ := e
  cases e
  refine ⟨F₀, H₀, O, F, ε, x, r, ex, fun v F1 H1 x1 rx => k _ F1 H1 x1 ?_⟩
  cases x with
  | none => rw [rx.non]; simp [Rep]
  | bool b => rw [rx.bl]; simp [Rep]
  | int b => rw [rx.int]; simp [Rep]
  | str b => rw [rx.str]; simp [Rep]
  | tuple b => obtain ⟨_, _, e, _⟩ := rx.tup; rw [e]; simp [Rep]
  | list b => obtain ⟨_, _, e, _⟩ := rx.lst; rw [e]; simp [Rep]
  | dict b => rcases rx with rx | ⟨_, _, _, z, _⟩; simp [Rep] at rx; cases z
theorem q_neg (ha : PEr X a f) : PEv X (.UnaryOp .USub a pos) (op1 oNeg f) := PE_imp (pe_un un_neg ha) fun σ H Q ⟨F₀, H₀, O, F, ε, t, r, e, k⟩ => by
  simp only [op1, Option.bind_eq_some_iff] at e
  obtain ⟨x, ex, e⟩ := e
  unfold oNeg at e
  split at e
  · cases e
    exact ⟨F₀, H₀, O, F, ε, _, r, ex, fun v F1 H1 x1 rx => ⟨_, rx.int, k _ F1 H1 x1 (by simp [Rep])⟩⟩
  · cases e

/-! ### calls of builtins -/
def OpN (K : PySem.W.Frag) (o : List T → Option T) (R : List V → Hp → VK → Prop) : Prop :=
  ∀ (O F : Addr → Prop) (H : Hp) (ts : List T) (t : T) (vs : List V) (Q : VK), (∀ a, F a → ∃ o, H a = some o) → Paired (RepR K O F H) ts vs → o ts = some t →
    (∀ v F' H', Ext F H F' H' → Rep K F' H' t v → Q v H') → R vs H Q
theorem opN_imp {o : List T → Option T} {R : List V → Hp → VK → Prop} (hR : OpN X.K o R) : ∀ σ H Q, tV X.K (opN o fs) σ H Q → tCB R (tAR X.K fs) σ H Q := by
  rintro σ H Q ⟨F₀, H₀, O, F, ε, t, r, e, k⟩
  simp only [opN, Option.bind_eq_some_iff] at e
  obtain ⟨ts, et, eo⟩ := e
  exact ⟨F₀, H₀, O, F, ε, ts, r, et, fun vs F1 H1 x1 q => hR O F1 H1 ts t vs Q x1.dom q eo fun v F' H' x3 q3 => k v F' H' (x1.trans x3) q3⟩
theorem CallR_or {u : Value} {r r' : List V → Hp → VK → Prop} (h1 : CallR X u r) (h2 : CallR X u r') : CallR X u (fun xs H Q => r xs H Q ∨ r' xs H Q) := h1.or h2
theorem q_len (hm : X.mg "len" = none) (ha : PAr X (e :: es) fs) (hg : Gl X "len" := by rfl) (he : starEach (e :: es) X.env = (false, eval e X.env) :: starEach es X.env := by rfl) (hpl : (backTo pos (starEach es X.env)).any (·.1) = false := by rfl) :
    PEv X (.Call (.Name "len" p) (e :: es) [] pos) (opN oLen fs) := PE_imp (pe_callB (call_len_seq.or call_len_str) hg hm PySem.boot_len ha (he := he) (hpl := hpl)) (opN_imp (by
  intro O F H ts t vs Q d q e k
  unfold oLen at e
  split at e
  · cases e
    cases q with
    | cons q1 q2 =>
      cases q2
      obtain ⟨a, ws, rfl, hs, hr⟩ := q1.tup
      exact .inl ⟨a, ws, rfl, .inr hs, k _ F H (Ext.refl d) (by simp [Rep, hr.length])⟩
  · cases e
    cases q with
    | cons q1 q2 =>
      cases q2
      obtain ⟨a, ws, rfl, hs, hr⟩ := q1.lst
      exact .inl ⟨a, ws, rfl, .inl (.inl hs), k _ F H (Ext.refl d) (by simp [Rep, hr.length])⟩
  · split at e
    next hz =>
      cases e
      cases q with
      | cons q1 q2 =>
        cases q2
        exact .inr ⟨_, by rw [q1.str], by rw [sizeL]; exact hz, k _ F H (Ext.refl d) (by simp [Rep])⟩
    next => cases e
  · cases e))
theorem q_min (hm : X.mg "min" = none) (ha : PAr X (e :: es) fs) (hc : X.calm = true := by rfl) (hg : Gl X "min" := by rfl) (he : starEach (e :: es) X.env = (false, eval e X.env) :: starEach es X.env := by rfl) (hpl : (backTo pos (starEach es X.env)).any (·.1) = false := by rfl) :
    PEv X (.Call (.Name "min" p) (e :: es) [] pos) (opN oMin fs) := PE_imp (pe_callB (call_min2 hc) hg hm (by decide +kernel) ha (he := he) (hpl := hpl)) (opN_imp (by
  intro O F H ts t vs Q d q e k
  unfold oMin at e
  split at e
  · cases e
    cases q with
    | cons q1 q2 =>
      cases q2 with
      | cons q2 q3 =>
        cases q3
        exact ⟨_, _, by rw [q1.int, q2.int], k _ F H (Ext.refl d) (by simp [Rep])⟩
  · cases e))
theorem q_max (hm : X.mg "max" = none) (ha : PAr X (e :: es) fs) (hc : X.calm = true := by rfl) (hg : Gl X "max" := by rfl) (he : starEach (e :: es) X.env = (false, eval e X.env) :: starEach es X.env := by rfl) (hpl : (backTo pos (starEach es X.env)).any (·.1) = false := by rfl) :
    PEv X (.Call (.Name "max" p) (e :: es) [] pos) (opN oMax fs) := PE_imp (pe_callB (call_max2 hc) hg hm (by decide +kernel) ha (he := he) (hpl := hpl)) (opN_imp (by
  intro O F H ts t vs Q d q e k
  unfold oMax at e
  split at e
  · cases e
    cases q with
    | cons q1 q2 =>
      cases q2 with
      | cons q2 q3 =>
        cases q3
        exact ⟨_, _, by rw [q1.int, q2.int], k _ F H (Ext.refl d) (by simp [Rep])⟩
  · cases e))
theorem q_tuple (hm : X.mg "tuple" = none) (ha : PAr X (e :: es) fs) (hg : Gl X "tuple" := by rfl) (he : starEach (e :: es) X.env = (false, eval e X.env) :: starEach es X.env := by rfl) (hpl : (backTo pos (starEach es X.env)).any (·.1) = false := by rfl) :
    PEv X (.Call (.Name "tuple" p) (e :: es) [] pos) (opN oTuple fs) := PE_imp (pe_callTy call_tuple_of hg hm (by decide +kernel) ha (he := he) (hpl := hpl)) (opN_imp (by
  intro O F H ts t vs Q d q e k
  unfold oTuple at e
  split at e
  · cases e
    cases q with
    | cons q1 q2 =>
      cases q2
      obtain ⟨a, ws, rfl, hs, hr⟩ := q1.tup
      refine ⟨a, ws, rfl, .inr ⟨hs, k _ F H (Ext.refl d) ?_⟩⟩
      simp only [Rep]
      exact ⟨a, ws, rfl, hs, hr⟩
  · cases e
    cases q with
    | cons q1 q2 =>
      cases q2
      obtain ⟨a, ws, rfl, hs, hr⟩ := q1.lst
      refine ⟨a, ws, rfl, .inl ⟨.inl hs, fun l hl => ?_⟩⟩
      have x1 := Ext.laid (o := .tup ws) d hl
      refine k _ F _ x1 ?_
      simp only [Rep]
      exact ⟨l, ws, rfl, SqT.of upd_same, hr.ext x1⟩
  · cases e))
theorem q_int1 (hm : X.mg "int" = none) (ha : PAr X (e :: es) fs) (hg : Gl X "int" := by rfl) (he : starEach (e :: es) X.env = (false, eval e X.env) :: starEach es X.env := by rfl) (hpl : (backTo pos (starEach es X.env)).any (·.1) = false := by rfl) :
    PEv X (.Call (.Name "int" p) (e :: es) [] pos) (opN oInt fs) := PE_imp (pe_callTy call_int1 hg hm (by decide +kernel) ha (he := he) (hpl := hpl)) (opN_imp (by
  intro O F H ts t vs Q d q e k
  unfold oInt at e
  split at e
  · cases e
    cases q with
    | cons q1 q2 =>
      cases q2
      exact .inl ⟨_, by rw [q1.int], k _ F H (Ext.refl d) (by simp [Rep])⟩
  · cases e
    cases q with
    | cons q1 q2 =>
      cases q2
      exact .inr ⟨_, by rw [q1.bl], k _ F H (Ext.refl d) (by simp [Rep])⟩
  · cases e))

/-! ### truth, and, or, not -/
theorem t_bool (h : PEr X e f) (he : ∀ whole, isTrue e X.env whole = (do let v ← whole; standAt e.pos; holding [v] (truthy v)) := by intro _; rfl) : PTt X e (tstB f) := PT_imp (pt_val h he) fun σ H Q ⟨F₀, H₀, O, F, ε, b, r, e, k⟩ => by
  simp only [tstB, Option.bind_eq_some_iff] at e
  obtain ⟨t, et, e⟩ := e
  split at e
  · cases e
    exact ⟨F₀, H₀, O, F, ε, _, r, et, fun v F1 H1 x1 rx => ⟨_, rx.bl, k F1 H1 x1⟩⟩
  · cases e
theorem t_isN {j pos'} (ha : PEr X a f) : PTt X (.Compare a [.Is] [.Constant .none j pos'] pos) (tstB (op1 oIsN f)) := PT_imp (pt_cmp (pc_isN ha)) fun σ H Q ⟨F₀, H₀, O, F, ε, t, r, e, k⟩ => by
  simp only [tstB, op1, oIsN, Option.bind_eq_some_iff] at e
  obtain ⟨_, ⟨x, ex, e1⟩, e⟩ := e
  cases e1
  cases e
  refine ⟨F₀, H₀, O, F, ε, x, r, ex, fun v F1 H1 x1 rx => ⟨_, ?_, k F1 H1 x1⟩⟩
  cases x with
  | none => rw [rx.non]; simp
  | bool b => rw [rx.bl]; simp
  | int b => rw [rx.int]; simp
  | str b => rw [rx.str]; simp
  | tuple b => obtain ⟨_, _, e, _⟩ := rx.tup; rw [e]; simp
  | list b => obtain ⟨_, _, e, _⟩ := rx.lst; rw [e]; simp
  | dict b => rcases rx with rx | ⟨_, _, _, z, _⟩; simp [Rep] at rx; cases z
theorem t_notN {j pos'} (ha : PEr X a f) : PTt X (.Compare a [.IsNot] [.Constant .none j pos'] pos) (tstB (op1 oNotN f)) := PT_imp (pt_cmp (pc_notN ha)) fun σ H Q ⟨F₀, H₀, O, F, ε, t, r, e, k⟩ => by
  simp only [tstB, op1, oNotN, Option.bind_eq_some_iff] at e
  obtain ⟨_, ⟨x, ex, e1⟩, e⟩ := e
  cases e1
  cases e
  refine ⟨F₀, H₀, O, F, ε, x, r, ex, fun v F1 H1 x1 rx => ⟨_, ?_, k F1 H1 x1⟩⟩
  cases x with
  | none => rw [rx.non]; simp
  | bool b => rw [rx.bl]; simp
  | int b => rw [rx.int]; simp
  | str b => rw [rx.str]; simp
  | tuple b => obtain ⟨_, _, e, _⟩ := rx.tup; rw [e]; simp
  | list b => obtain ⟨_, _, e, _⟩ := rx.lst; rw [e]; simp
  | dict b => rcases rx with rx | ⟨_, _, _, z, _⟩; simp [Rep] at rx; cases z
theorem t_list (h : PEr X e f) (he : ∀ whole, isTrue e X.env whole = (do let v ← whole; standAt e.pos; holding [v] (truthy v)) := by intro _; rfl) : PTt X e (tstL f) := PT_imp (pt_truth h he) fun σ H Q ⟨F₀, H₀, O, F, ε, b, r, e, k⟩ => by
  simp only [tstL, Option.bind_eq_some_iff] at e
  obtain ⟨t, et, e⟩ := e
  have emp : ∀ {ts : List T} {vs : List V} {F1 : Addr → Prop} {H1 : Hp}, RepL X.K F1 H1 ts vs → ts.isEmpty = vs.isEmpty := fun {ts vs F1 H1} q => by
    have := q.length
    cases ts <;> cases vs <;> simp_all
  split at e
  · cases e
    refine ⟨F₀, H₀, O, F, ε, _, r, et, fun v F1 H1 x1 rx => ?_⟩
    obtain ⟨a, vs, rfl, hs, hr⟩ := rx.lst
    exact ⟨_, .inl ⟨vs, .inl hs, by rw [emp hr]⟩, k F1 H1 x1⟩
  · cases e
    refine ⟨F₀, H₀, O, F, ε, _, r, et, fun v F1 H1 x1 rx => ?_⟩
    obtain ⟨a, vs, rfl, hs, hr⟩ := rx.tup
    exact ⟨_, .inr (.inl ⟨vs, hs, by rw [emp hr]⟩), k F1 H1 x1⟩
  · cases e
theorem t_not (h : PTt X e ft) : PTt X (.UnaryOp .Not e pos) (notT ft) := PT_imp (pt_not h) fun σ H Q ⟨F₀, H₀, O, F, ε, b, r, e, k⟩ => by
  simp only [notT, Option.map_eq_some_iff] at e
  obtain ⟨c, ec, rfl⟩ := e
  exact ⟨F₀, H₀, O, F, ε, c, r, ec, fun F1 H1 x1 => k F1 H1 x1⟩
theorem w_and1 (h : PTt X e ft) : PWt X (.BoolOp .And [e] pos) ft := pw_and1 h
theorem w_or1 (h : PTt X e ft) : PWt X (.BoolOp .Or [e] pos) ft := pw_or1 h
theorem w_and (h : PTt X a ft) (h2 : PWt X (.BoolOp .And (b :: es) pos) gt) : PWt X (.BoolOp .And (a :: b :: es) pos) (andT ft gt) := PW_imp (pw_and h h2) fun σ H Q ⟨F₀, H₀, O, F, ε, b, r, e, k⟩ => by
  simp only [andT, Option.bind_eq_some_iff] at e
  obtain ⟨c, ec, e⟩ := e
  refine ⟨F₀, H₀, O, F, ε, c, r, ec, fun F1 H1 x1 => ?_⟩
  cases c with
  | true => exact iteT ⟨F₀, H₀, O, F1, ε, b, r.ext x1, by simpa using e, fun F2 H2 x2 => k F2 H2 (x1.trans x2)⟩
  | false =>
    have : b = false := by simpa using e.symm
    subst this
    exact iteF (k F1 H1 x1)
theorem w_or (h : PTt X a ft) (h2 : PWt X (.BoolOp .Or (b :: es) pos) gt) : PWt X (.BoolOp .Or (a :: b :: es) pos) (orT ft gt) := PW_imp (pw_or h h2) fun σ H Q ⟨F₀, H₀, O, F, ε, b, r, e, k⟩ => by
  simp only [orT, Option.bind_eq_some_iff] at e
  obtain ⟨c, ec, e⟩ := e
  refine ⟨F₀, H₀, O, F, ε, c, r, ec, fun F1 H1 x1 => ?_⟩
  cases c with
  | true =>
    have : b = true := by simpa using e.symm
    subst this
    exact iteT (k F1 H1 x1)
  | false => exact iteF ⟨F₀, H₀, O, F1, ε, b, r.ext x1, by simpa using e, fun F2 H2 x2 => k F2 H2 (x1.trans x2)⟩
theorem w_t (h : PWt X e ft) : PTt X e ft := h.pt
end
end D
end
section
set_option linter.all false
set_option Elab.async false
set_option maxRecDepth 100000
set_option autoImplicit false
namespace D
open PySem PySem.Spec PyProof.Rows L2

/-- what a def promises: the value of d -/
def spT (K : PySem.W.Frag) (n : Nat) (d : List T → Option T) : Sp := fun vs H Q _ => vs.length = n ∧ ∃ F ts t, (∀ a, F a → ∃ o, H a = some o) ∧ RepL K F H ts vs ∧ d ts = some t ∧ ∀ v F' H', Ext F H F' H' → Rep K F' H' t v → Q v H'
section
variable {X : Cx} {k n : Nat} {fa : Addr} {fd : FuncData} {ps : List Str} {d : List T → Option T} {x : Str} {p pos : Pos} {e : Expr} {es : List Expr} {fs : List Fe}
theorem q_call (F : FnOk X.prog X.w X.K X.mg X.base CX0 k fa fd ps (spT X.K n d)) (hr : Room k X.A) (hg : Gl X x) (hm : X.mg x = some (.ref fa)) (hk : PySem.W.keepIn X.K (.ref fa) = true) (hb : Binds X.K fd ps [])
    (ha : PAv X (e :: es) fs) (hn : fs.length = n := by rfl) (hdb : (x == ("__debug__" : Str)) = false := by decide) (he : starEach (e :: es) X.env = (false, eval e X.env) :: starEach es X.env := by rfl) (hpl : (backTo pos (starEach es X.env)).any (·.1) = false := by rfl) :
    PEv X (.Call (.Name x p) (e :: es) [] pos) (opN d fs) := PE_imp (pe_call F hr hg hm hk hb .nil pass0 ha hdb he hpl) fun σ H Q ⟨F₀, H₀, O, F, ε, t, r, e, k⟩ => by
  simp only [opN, Option.bind_eq_some_iff] at e
  obtain ⟨ts, et, ed⟩ := e
  have hl : ∀ (gs : List Fe) (us : List T), args gs ε = some us → us.length = gs.length := by
    intro gs
    induction gs with
    | nil => intro us e; cases e; rfl
    | cons g gs ih =>
      intro us e
      simp only [args, Option.bind_eq_some_iff, Option.map_eq_some_iff] at e
      obtain ⟨t, _, vs, ev, rfl⟩ := e
      simp [ih vs ev]
  refine ⟨F₀, H₀, O, F, ε, ts, r, et, fun vs F1 H1 x1 q => ⟨?_, F1, ts, t, x1.dom, by simpa using q, ed, fun v F' H' x2 q2 => k v F' H' (x1.trans x2) q2⟩⟩
  rw [List.append_nil, ← q.length, hl fs ts et, hn]
end
section
variable {P : Program} {w : World} {K : PySem.W.Frag} {mg : Str → Option Value} {base : Heap}
theorem relE_start {F : Addr → Prop} {H : Hp} {ts : List T} {vs : List V} {N : List Str} (dom : ∀ a, F a → ∃ o, H a = some o) (q : RepL K F H ts vs) (n : Nat) :
    RelE K F H (fun a => H a = none) F H ((ts.map fun t => some (.imm t)) ++ List.replicate n none) (vs.map some ++ List.replicate n none) := by
  have imm : ∀ (i : Nat) (s : Sl), ((ts.map fun t => some (Sl.imm t)) ++ List.replicate n none)[i]? = some (some s) → ∃ t, s = .imm t ∧ ts[i]? = some t := by
    intro i s e
    by_cases hi : i < ts.length
    · rw [List.getElem?_append_left (by simpa using hi), List.getElem?_map] at e
      rw [List.getElem?_eq_getElem hi] at e ⊢
      simp at e
      exact ⟨_, e.symm, rfl⟩
    · rw [List.getElem?_append_right (by simpa using hi), List.getElem?_replicate] at e
      split at e <;> cases e
  refine ⟨by simp [q.length], fun i s e => ?_, fun i j s u a hij e1 e2 o1 => ?_, Ext.refl dom, fun _ h => h, fun _ h => h⟩
  · obtain ⟨t, rfl, ht⟩ := imm i s e
    obtain ⟨v, hv, rv⟩ := q.get ht
    refine ⟨v, ?_, rv⟩
    rw [List.getElem?_append_left (by have := (List.getElem?_eq_some_iff.mp hv).1; simpa using this), List.getElem?_map, hv]
    rfl
  · obtain ⟨t, rfl, _⟩ := imm i s e1
    cases o1
/-- THE RULE for a def: its body's meaning -/
theorem fun_ok {x qual : Str} {st : Stmt} {f : Addr} {fd : FuncData} {N ps : List Str} {k : Nat} {b : Fs} (F : Fun K x qual st f fd) (S : FnScope N ps (defScope st))
    (hb : ∀ (cdv : Value) (A : Around) (outer : List Env) (s : Shared) (H : Hp) (E : XK), Room k (A.deeper (envOfC qual (defScope st) s.heap.objs.size f cdv)) →
      PBt (cxOf CX0 P w K mg base N qual (defScope st) f cdv A outer s H E).nox (defBody st) b) :
    FnOk P w K mg base CX0 (k + 1) f fd ps (spT K ps.length (runF b N.length)) := by
  refine F.ok S (fun vs H Q E h => h.1) fun cdv A outer s H vs Q E hr h => ⟨_, hb cdv A outer s H E hr, ?_⟩
  obtain ⟨hl, F, ts, t, dom, q, e, kq⟩ := h
  simp only [runF, Option.bind_eq_some_iff] at e
  obtain ⟨o, eo, e⟩ := e
  refine ⟨F, H, fun a => H a = none, F, _, o, ?_, eo, ?_⟩
  · have := relE_start (N := N) dom q (N.length - ts.length)
    unfold L2.start
    rw [q.length] at this ⊢
    exact this
  · cases o with
    | rt t' =>
      cases e
      exact fun v F' H' x q => kq v F' H' x q
    | nx ε' =>
      cases e
      exact fun σ' F' H' _ r => kq _ F' H' r.ent (by simp [Rep])
    | bk _ => cases e
    | ct _ => cases e
/-- less depth is less -/
theorem fnOk_none {f : Addr} {fd : FuncData} {ps : List Str} {k n : Nat} : FnOk P w K mg base CX0 k f fd ps (spT K n fun _ => none) := by
  have no : ∀ vs H Q E, ¬ spT K n (fun _ => none) vs H Q E := fun vs H Q E h => by
    obtain ⟨_, _, _, _, _, _, e, _⟩ := h
    cases e
  exact ⟨fun vs H Q E h => absurd h (no vs H Q E), fun A outer s H args us vs Q E _ _ _ _ h => absurd h (no vs H Q E)⟩
end
end D
end
section
set_option linter.all false
set_option Elab.async false
set_option maxRecDepth 100000
set_option autoImplicit false
namespace D
open PySem PySem.Spec PyProof.Rows L2

/-! ### the cells that a comprehension takes -/
def clos (env : Env) : List (Str × NameKind) → List (Str × Addr) → List (Str × Addr)
  | [], cs => cs
  | x :: r, cs => if x.2 == .free then clos env r ((x.1, (env.cells.lookup x.1).getD 0) :: cs) else clos env r cs
theorem closureFor_eq {scope : Scope} {env : Env} (h : ∀ x ∈ scope.names, x.2 = .free → ∃ c, env.cells.lookup x.1 = some c) : closureFor scope env = pure (clos env scope.names []) := by
  have go : ∀ (l : List (Str × NameKind)) (cs : List (Str × Addr)), (∀ x ∈ l, x.2 = .free → ∃ c, env.cells.lookup x.1 = some c) →
      (forIn l cs (fun x r => (if (x.2 == NameKind.free) = true then do let a ← cellOf env x.1; pure (ForInStep.yield ((x.1, a) :: r)) else pure (ForInStep.yield r)) : _ → _ → Sem (ForInStep (List (Str × Addr)))) : Sem (List (Str × Addr))) = pure (clos env l cs) := by
    intro l
    induction l with
    | nil => intro cs _; rfl
    | cons x r ih =>
      intro cs hl
      rw [List.forIn_cons]
      have hr := fun y hy => hl y (List.mem_cons_of_mem _ hy)
      by_cases k : x.2 = .free
      · obtain ⟨c, hc⟩ := hl x List.mem_cons_self k
        have e1 : (x.2 == NameKind.free) = true := by simp [k]
        simp only [e1, if_true, cellOf, hc, clos, Option.getD_some]
        exact ih _ hr
      · have e1 : (x.2 == NameKind.free) = false := by simpa using k
        simp only [e1, Bool.false_eq_true, if_false, clos]
        exact ih _ hr
  have := go scope.names [] h
  simp only [closureFor]
  exact congrArg (fun m => m >>= fun cs => pure cs) this
theorem clos_from {env : Env} : ∀ {l : List (Str × NameKind)} {cs : List (Str × Addr)}, (∀ x ∈ l, x.2 = .free → ∃ c, env.cells.lookup x.1 = some c) → (∀ x c, cs.lookup x = some c → env.cells.lookup x = some c) → ∀ x c, (clos env l cs).lookup x = some c → env.cells.lookup x = some c
  | [], cs, _, h, x, c, e => h x c e
  | y :: r, cs, hl, h, x, c, e => by
    unfold clos at e
    have hr := fun z hz => hl z (List.mem_cons_of_mem _ hz)
    split at e
    next k =>
      refine clos_from hr (fun x c e => ?_) x c e
      rw [List.lookup_cons] at e
      split at e
      next hb =>
        obtain ⟨c', hc⟩ := hl y List.mem_cons_self (by simpa using k)
        have : x = y.1 := by simpa using hb
        subst this
        rw [hc] at e ⊢
        simpa using e
      next => exact h x c e
    next => exact clos_from hr h x c e
theorem clos_has {env : Env} : ∀ {l : List (Str × NameKind)} {cs : List (Str × Addr)} {x : Str}, ((∃ y ∈ l, y.2 = .free ∧ y.1 = x) ∨ ∃ c, cs.lookup x = some c) → ∃ c, (clos env l cs).lookup x = some c
  | [], cs, x, h => by
    rcases h with ⟨y, hy, _⟩ | h
    · cases hy
    · exact h
  | y :: r, cs, x, h => by
    unfold clos
    split
    next k =>
      refine clos_has ?_
      rcases h with ⟨z, hz, k', e⟩ | ⟨c, h⟩
      · rcases List.mem_cons.mp hz with rfl | hz
        · refine .inr ?_
          subst e
          rw [List.lookup_cons]
          simp
        · exact .inl ⟨z, hz, k', e⟩
      · refine .inr ?_
        rw [List.lookup_cons]
        split
        · exact ⟨_, rfl⟩
        · exact ⟨c, h⟩
    next k =>
      refine clos_has ?_
      rcases h with ⟨z, hz, k', e⟩ | h
      · rcases List.mem_cons.mp hz with rfl | hz
        · exact absurd (by simpa using k') k
        · exact .inl ⟨z, hz, k', e⟩
      · exact .inr h

/-! ### the block's own context -/
def compCx (X : Cx) (N' : List Str) (scope : Scope) (cl : List (Str × Addr)) (C : Addr) (s₀ : Shared) (H₀ : Hp) (fp : List Addr) (pn : List (Addr × Obj)) : Cx where
  prog := X.prog
  w := X.w
  K := X.K
  mg := X.mg
  base := X.base
  A := X.A
  N := N'
  s₀ := s₀
  H₀ := H₀
  env := compEnvC scope cl C X.env
  outer := X.stack
  stack := X.stack
  ex := fp
  fn := fun _ => false
  calm := X.calm
  pn := pn
  xe := fun _ _ => False
/-- the tests of a comprehension -/
def PTs (X : Cx) (ifs : List Expr) (cc : Ft) : Prop := ∀ (pins : List (Addr × Obj)) (s : Shared) (σ : L2.St) (H : Hp) (Q : Bool → Hp → Prop), L2.Inv X pins σ H s → tT X.K cc σ H Q →
  wpAny (model X.prog X.w) X.A (forIn ifs true fun c r => if r = true then do let ok ← isTrue c X.env (eval c X.env); pure (ForInStep.yield ok) else pure (ForInStep.yield r)) (TP X pins σ Q) X.xe s
theorem ts_nil {X : Cx} : PTs X [] (cstT true) := fun pins s σ H Q I ⟨F₀, H₀, O, F, ε, b, r, e, k⟩ => by
  cases e
  exact wpAny_tests_nil ⟨H, I, k F H (Ext.refl r.dom)⟩
theorem ts_one {X : Cx} {c : Expr} {cc : Ft} (h : PTt X c cc) : PTs X [c] cc := fun pins s σ H Q I q => wpAny_tests_one (h pins s σ H Q I q)
section
variable {prog : Program} {w : World} {A : Around} {R : Result → Shared → Prop} {s : Shared}
/-- the loop of a comprehension, any target -/
theorem compLoop_any {elt target iter : Expr} {ifs : List Expr} {scope : Scope} {pos : Pos} {it acc : Value} {env : Env} (I : Nat → Shared → Prop)
    (turn : ∀ n s, I n s → wpAny (model prog w) A (pyNext it) (fun r s₁ => match r with
      | none => R (.ok .next) s₁
      | some v => wpAny (model prog w) A (letOwnedTupleGo target it v) (fun _ s₁' => wpAny (model prog w) A (assign target env v) (fun _ s₂ =>
          wpAny (model prog w) A (forIn ifs true fun c r => if r = true then do let ok ← isTrue c env (eval c env); pure (ForInStep.yield ok) else pure (ForInStep.yield r)) (fun ok s₃ =>
            if ok = true then wpAny (model prog w) A (eval elt env) (fun x s₄ =>
              wpAny (model prog w) A (call (.builtin "list.append") [acc, x]) (fun _ s₅ => ∃ m, m < n ∧ I m s₅) (fun _ _ => False) s₄) (fun _ _ => False) s₃
            else ∃ m, m < n ∧ I m s₃) (fun _ _ => False) s₂) (fun _ _ => False) s₁') (fun _ _ => False) s₁) (fun _ _ => False) s)
    (n : Nat) (h : I n s) : codeAny (model prog w) A (.compLoop (.ListComp elt [⟨target, iter, ifs, 0⟩] scope pos) 0 it acc env) R s := by
  refine codeAny_loop rfl I (fun n s hI => ?_) n h
  show wpAny _ A ((compTurn (.ListComp elt [⟨target, iter, ifs, 0⟩] scope pos) 0 it acc env).onRaise (fun x => do noteFrame x env; theTreesLotGoes x)) _ _ s
  refine wpAny_noted ?_
  rw [compTurn_list]
  refine wpAny_bind (wpAny_standAt (wpAny_bind (wpAny_mono (turn n s hI) (fun r s₁ h₁ => ?_) fun _ _ h' => h'.elim)))
  cases r with
  | none => exact wpAny_pure h₁
  | some v =>
    refine wpAny_bind (wpAny_mono h₁ (fun _ s₁' h₁' => ?_) fun _ _ h' => h'.elim)
    refine wpAny_bind (wpAny_mono h₁' (fun _ s₂ h₂ => wpAny_bind (wpAny_mono h₂ (fun ok s₃ h₃ => ?_) fun _ _ h' => h'.elim)) fun _ _ h' => h'.elim)
    cases ok with
    | false => exact wpAny_pure ⟨rfl, h₃⟩
    | true =>
      exact wpAny_bind (wpAny_bind (wpAny_mono h₃ (fun x s₄ h₄ => wpAny_bind (wpAny_mono h₄ (fun _ s₅ h₅ => wpAny_pure (wpAny_pure ⟨rfl, h₅⟩)) fun _ _ h' => h'.elim)) fun _ _ h' => h'.elim))
end
end D
end
section
set_option linter.all false
set_option Elab.async false
set_option maxRecDepth 100000
set_option autoImplicit false
namespace D
open PySem PySem.Spec PyProof.Rows L2

theorem lookup_relabel {env : Env} {k : NameKind} : ∀ {names : List (Str × NameKind)} {x : Str}, names.lookup x = some k → ∃ k', (names.map fun (n, k) => if (k == NameKind.free && env.scope.kind == .function && env.kindOf n == some .cell) then (n, NameKind.cell) else (n, k)).lookup x = some k' ∧ (k' = k ∨ (k = .free ∧ k' = .cell))
  | [], x, h => by simp at h
  | (n, j) :: r, x, h => by
    have ih := @lookup_relabel env k r x
    show ∃ k', List.lookup x ((if (j == NameKind.free && env.scope.kind == .function && env.kindOf n == some .cell) = true then (n, NameKind.cell) else (n, j)) :: _) = some k' ∧ _
    cases hx : x == n with
    | true =>
      simp only [List.lookup_cons, hx] at h
      cases h
      by_cases hc : (k == NameKind.free && env.scope.kind == .function && env.kindOf n == some .cell) = true
      · rw [if_pos hc]
        refine ⟨.cell, by simp [List.lookup_cons, hx], .inr ⟨?_, rfl⟩⟩
        simp only [Bool.and_eq_true] at hc
        simpa using hc.1.1
      · rw [if_neg hc]
        exact ⟨k, by simp [List.lookup_cons, hx], .inl rfl⟩
    | false =>
      simp only [List.lookup_cons, hx] at h
      obtain ⟨k', h1, h2⟩ := ih h
      refine ⟨k', ?_, h2⟩
      by_cases hc : (j == NameKind.free && env.scope.kind == .function && env.kindOf n == some .cell) = true
      · rw [if_pos hc]; simp only [List.lookup_cons, hx]; exact h1
      · rw [if_neg hc]; simp only [List.lookup_cons, hx]; exact h1
theorem mem_lookup {names : List (Str × NameKind)} {x : Str} {k : NameKind} (h : names.lookup x = some k) : ∃ y ∈ names, y.2 = k ∧ y.1 = x := by
  induction names with
  | nil => simp at h
  | cons y r ih =>
    rw [List.lookup_cons] at h
    split at h
    next hb =>
      cases h
      exact ⟨y, List.mem_cons_self, rfl, by simpa using (beq_iff_eq.mp hb).symm⟩
    next =>
      obtain ⟨z, hz, h1, h2⟩ := ih h
      exact ⟨z, List.mem_cons_of_mem _ hz, h1, h2⟩
/-- in the relabelled scope a name is cell or free just if it was free -/
theorem relabel_free {scope : Scope} {env : Env} (hcell : ∀ y ∈ scope.names, y.2 ≠ .cell) {x : Str} (h : (relabel scope env).names.lookup x = some .cell ∨ (relabel scope env).names.lookup x = some .free) : ∃ y ∈ scope.names, y.2 = .free ∧ y.1 = x := by
  have go : ∀ {k : NameKind}, (relabel scope env).names.lookup x = some k → (k = .cell ∨ k = .free) → ∃ y ∈ scope.names, y.2 = .free ∧ y.1 = x := fun {k} e hk => by
    obtain ⟨y, hy, h1, h2⟩ := mem_lookup e
    obtain ⟨⟨n, j⟩, hz, e2⟩ := List.mem_map.mp (show y ∈ scope.names.map _ from hy)
    by_cases hc : (j == NameKind.free && env.scope.kind == .function && env.kindOf n == some .cell) = true
    · have e3 : (n, NameKind.cell) = y := by
        have e4 : (if (j == NameKind.free && env.scope.kind == .function && env.kindOf n == some .cell) = true then (n, NameKind.cell) else (n, j)) = y := e2
        rwa [if_pos hc] at e4
      subst e3
      simp only [Bool.and_eq_true] at hc
      exact ⟨(n, j), hz, by simpa using hc.1.1, h2⟩
    · have e3 : (n, j) = y := by
        have e4 : (if (j == NameKind.free && env.scope.kind == .function && env.kindOf n == some .cell) = true then (n, NameKind.cell) else (n, j)) = y := e2
        rwa [if_neg hc] at e4
      subst e3
      rcases hk with rfl | rfl
      · exact absurd h1 (hcell _ hz)
      · exact ⟨(n, j), hz, h1, h2⟩
  rcases h with h | h
  · exact go h (.inl rfl)
  · exact go h (.inr rfl)

/-- what stands outside of the frame's own lists changes -/
theorem RelE.other {K : PySem.W.Frag} {F₀ O F : Addr → Prop} {H₀ H : Hp} {ε : Ev} {σ : L2.St} {a : Addr} {xs ys : List V} (r : RelE K F₀ H₀ O F H ε σ) (hn : ¬ F a) (ho : ¬ O a) (h0 : H₀ a = none) (ha : H a = some (.lst xs)) :
    Kp K F H F (upd H a (.lst ys)) ∧ RelE K F₀ H₀ O F (upd H a (.lst ys)) ε σ := by
  have kp : Kp K F H F (upd H a (.lst ys)) := by
    refine ⟨fun b zs q => ?_, fun b zs f q => ⟨f, ?_⟩⟩
    · rcases q with q | q
      · refine .inl ?_
        have nb : b ≠ a := by
          rintro rfl
          rcases q with q | ⟨_, q⟩
          · rw [ha] at q
            cases q
          · rw [ha] at q
            cases q
        rcases q with q | ⟨u, q⟩
        · exact .inl (by rw [upd_ne nb]; exact q)
        · exact .inr ⟨u, by rw [upd_ne nb]; exact q⟩
      · exact .inr q
    · have nb : b ≠ a := by
        rintro rfl
        exact hn f
      rcases q with q | ⟨u, q⟩
      · exact .inl (by rw [upd_ne nb]; exact q)
      · exact .inr ⟨u, by rw [upd_ne nb]; exact q⟩
  refine ⟨kp, ⟨r.len, fun j u e => ?_, r.ne, ?_, r.o0, fun b e => r.fr b ?_⟩⟩
  · obtain ⟨v, h1, h2⟩ := r.val j u e
    refine ⟨v, h1, ?_⟩
    cases u with
    | imm t => exact Rep.kp h2 kp
    | own ts =>
      obtain ⟨b, vs, rfl, n, o, eh, z⟩ := h2
      have nb : b ≠ a := by
        rintro rfl
        exact ho o
      exact ⟨b, vs, rfl, n, o, by rw [upd_ne nb]; exact eh, z.kp kp⟩
    | dic ts =>
      obtain ⟨b, vs, rfl, n, o, eh, z⟩ := h2
      have nb : b ≠ a := by
        rintro rfl
        exact ho o
      exact ⟨b, vs, rfl, n, o, by rw [upd_ne nb]; exact eh, RepD.kp kp z⟩
  · refine ⟨fun b u q => ?_, r.ent.sub, r.ent.new, fun b f => ?_⟩
    · have nb : b ≠ a := by
        rintro rfl
        rw [h0] at q
        cases q
      rw [upd_ne nb]
      exact r.ent.same b u q
    · have nb : b ≠ a := by
        rintro rfl
        exact hn f
      rw [upd_ne nb]
      exact r.ent.dom b f
  · by_cases nb : b = a
    · subst nb
      rw [upd_same] at e
      cases e
    · rwa [upd_ne nb] at e

/-- the names of a comprehension: its own, then those that it takes -/
def capSt (n : Nat) (caps : List Nat) (σ : L2.St) : L2.St := List.replicate n none ++ caps.map fun i => (σ[i]?).join
theorem join_some {α : Type} {o : Option (Option α)} {x : α} (h : o.join = some x) : o = some (some x) := by
  cases o with
  | none => cases h
  | some o => exact congrArg some h
theorem cap_get {α : Type} {n : Nat} {caps : List Nat} {l : List (Option α)} {i : Nat} {x : α} (h : (List.replicate n none ++ caps.map fun i => (l[i]?).join)[i]? = some (some x)) : ∃ j, n ≤ i ∧ caps[i - n]? = some j ∧ l[j]? = some (some x) := by
  by_cases hi : i < n
  · rw [List.getElem?_append_left (by simpa using hi), List.getElem?_replicate] at h
    rw [if_pos hi] at h
    cases h
  · rw [List.getElem?_append_right (by simpa using hi), List.length_replicate, List.getElem?_map] at h
    cases e : caps[i - n]? with
    | none =>
      rw [e] at h
      cases h
    | some j =>
      rw [e] at h
      exact ⟨j, by omega, rfl, join_some (Option.some.inj h)⟩
theorem get_cap {α : Type} {n : Nat} {caps : List Nat} {l : List (Option α)} {i j : Nat} {x : α} (hi : n ≤ i) (hc : caps[i - n]? = some j) (h : l[j]? = some (some x)) : (List.replicate n none ++ caps.map fun i => (l[i]?).join)[i]? = some (some x) := by
  rw [List.getElem?_append_right (by simpa using hi), List.length_replicate, List.getElem?_map, hc]
  simp [h]
theorem RelE.cap {K : PySem.W.Frag} {F₀ O F : Addr → Prop} {H₀ H : Hp} {ε : Ev} {σ : L2.St} {D : Addr} (r : RelE K F₀ H₀ O F H ε σ) (n : Nat) {caps : List Nat} (nd : caps.Nodup) (hD : H D = none) :
    RelE K F₀ H₀ (fun a => O a ∧ a ≠ D) F (upd H D (.lst [])) (capEnv n caps ε) (capSt n caps σ) := by
  have x := Ext.laid (o := .lst []) r.dom hD
  refine ⟨by simp [capEnv, capSt], fun i s e => ?_, fun i j s u a hij e1 e2 o1 o2 h1 h2 => ?_, r.ent.trans x, fun a h => r.o0 a h.1, fun a h => ?_⟩
  · obtain ⟨j, hn, hc, e'⟩ := cap_get e
    obtain ⟨v, h1, h2⟩ := r.val j s e'
    refine ⟨v, get_cap hn hc h1, ?_⟩
    cases s with
    | imm t => exact Rep.ext h2 x
    | own ts =>
      obtain ⟨a, vs, e, nf, o, eh, z⟩ := h2
      exact ⟨a, vs, e, nf, ⟨o, fun q => by rw [q, hD] at eh; cases eh⟩, x.same _ _ eh, z.ext x⟩
    | dic ts =>
      obtain ⟨a, vs, e, nf, o, eh, z⟩ := h2
      exact ⟨a, vs, e, nf, ⟨o, fun q => by rw [q, hD] at eh; cases eh⟩, x.same _ _ eh, RepD.kp x.kp z⟩
  · obtain ⟨i', hi, ci, e1'⟩ := cap_get e1
    obtain ⟨j', hj, cj, e2'⟩ := cap_get e2
    obtain ⟨i2, _, ci2, h1'⟩ := cap_get (l := σ) h1
    obtain ⟨j2, _, cj2, h2'⟩ := cap_get (l := σ) h2
    rw [ci] at ci2
    rw [cj] at cj2
    cases ci2
    cases cj2
    refine r.ne i' j' s u a (fun z => ?_) e1' e2' o1 o2 h1' h2'
    subst z
    obtain ⟨l1, m1⟩ := List.getElem?_eq_some_iff.mp ci
    obtain ⟨l2, m2⟩ := List.getElem?_eq_some_iff.mp cj
    have ne : i - n ≠ j - n := by omega
    rcases Nat.lt_or_gt_of_ne ne with q | q
    · exact (List.pairwise_iff_getElem.mp nd _ _ l1 l2 q) (m1.trans m2.symm)
    · exact (List.pairwise_iff_getElem.mp nd _ _ l2 l1 q) (m2.trans m1.symm)
  · have nd : a ≠ D := by
      rintro rfl
      rw [upd_same] at h
      cases h
    rw [upd_ne nd] at h
    exact ⟨r.fr a h, nd⟩
end D
end
section
set_option linter.all false
set_option Elab.async false
set_option maxRecDepth 100000
set_option autoImplicit false
namespace D
open PySem PySem.Spec PyProof.Rows L2
/-- what of a comprehension's scope must hold -/
structure CompOk (X : Cx) (scope : Scope) (own : List Str) (caps : List (Nat × Str)) : Prop where
  kind : scope.kind = .function
  names : ∀ y ∈ scope.names, y.2 = .local → scope.names.lookup y.1 = some .local
  cell : ∀ y ∈ scope.names, y.2 ≠ .cell
  free : ∀ y ∈ scope.names, y.2 = .free → X.env.kindOf y.1 = some .cell ∨ X.env.kindOf y.1 = some .free
  cap : ∀ p ∈ caps, X.N[p.1]? = some p.2 ∧ scope.names.lookup p.2 = some .free
  nd : (caps.map (·.1)).Nodup
  calm : X.calm = true
section
variable {X : Cx} {tg iter elt : Expr} {ifs : List Expr} {scope : Scope} {it : Fi} {gg : Fg} {cc : Ft} {ee : Fe} {pos : Pos} {own : List Str} {caps : List (Nat × Str)}
/-- the block's context stands -/
theorem comp_ok {pins : List (Addr × Obj)} {σ : L2.St} {H2 : Hp} {s2 : Shared} {fp : List Addr} (S : CompOk X scope own caps) (I2 : L2.Inv X pins σ H2 s2) (f2 : ∀ b ∈ fp, FpOk X pins H2 b) (hfp : ∀ b ∈ fp, b < s2.heap.objs.size) (N' : List Str) :
    (compCx X N' scope (clos X.env scope.names []) (s2.heap.push { cls := .type "list", data := .seq ([] : List Value).toArray }).objs.size { s2 with heap := s2.heap.push { cls := .type "list", data := .seq ([] : List Value).toArray } } (upd H2 s2.heap.objs.size (.lst [])) fp (X.pn ++ pins)).Ok := by
  have hcl : ∀ x ∈ scope.names, x.2 = .free → ∃ c, X.env.cells.lookup x.1 = some c := fun x hx hk => I2.ok.has x.1 (S.free x hx hk)
  have cf : ∀ x c, (clos X.env scope.names []).lookup x = some c → X.env.cells.lookup x = some c := clos_from hcl (fun x c e => by simp at e)
  have I3 := I2.lnew (its := []) (ys := []) (t' := s2.toks) .nil (Nat.zero_le _)
  have sz : (s2.heap.push { cls := .type "list", data := .seq ([] : List Value).toArray }).objs.size = s2.heap.objs.size + 1 := Heap.size_push ..
  refine ⟨I2.ok.mod, S.kind, I2.ok.glob, I2.ok.blt, Nat.le_refl _, fun x y c e1 e2 => I2.ok.inj x y c (cf x c e1) (cf y c e2), fun x hx => ?_, fun x c h => (by cases h), I2.ok.hd, I2.ok.frames, .inl rfl, fun b hb => ⟨?_, fun x c e => (f2 b hb).2.2.2.2.1 x c (cf x c e)⟩, fun b o e => ?_, ?_, fun b o e hb => ?_, fun b hb hf => ?_, I3.stack, I3.stkFree⟩
  · exact clos_has (.inl (relabel_free S.cell hx))
  · show b ≠ (s2.heap.push { cls := .type "list", data := .seq ([] : List Value).toArray }).objs.size
    have h := hfp b hb
    rw [sz]
    exact Nat.ne_of_lt (Nat.lt_succ_of_lt h)
  · obtain ⟨h1, h2⟩ := I3.bs b o e
    exact ⟨h1, h2⟩
  · have h1 := Nat.le_trans I2.ok.bsz I2.sz
    show X.base.objs.size ≤ (s2.heap.push { cls := .type "list", data := .seq ([] : List Value).toArray }).objs.size
    omega
  · rcases (f2 b hb).2.2.2.1 with q | q
    · exact I2.ok.noex b o e q
    · exact absurd (Nat.lt_of_lt_of_le (Heap.lt_size (I2.ok.bs b o e).1) q) (Nat.lt_irrefl _)
  · rcases List.mem_cons.mp (I2.stkSub b hf) with q | q
    · exact (f2 b hb).2.1 q
    · exact (f2 b hb).2.2.1 q
/-- its first state -/
theorem comp_inv {pins : List (Addr × Obj)} {σ : L2.St} {H2 : Hp} {s2 : Shared} {fp : List Addr} (S : CompOk X scope own caps) (I2 : L2.Inv X pins σ H2 s2) (f2 : ∀ b ∈ fp, FpOk X pins H2 b) (hfp : ∀ b ∈ fp, b < s2.heap.objs.size) {h₁ : Heap} {m : Str → Option Value} {tk : Nat}
    (hns : h₁.Ns (s2.heap.push { cls := .type "list", data := .seq ([] : List Value).toArray }).objs.size m) (keep : ∀ b u, (s2.heap.push { cls := .type "list", data := .seq ([] : List Value).toArray }).get? b = some u → h₁.get? b = some u) :
    L2.Inv (compCx X (own ++ caps.map (·.2)) scope (clos X.env scope.names []) (s2.heap.push { cls := .type "list", data := .seq ([] : List Value).toArray }).objs.size { s2 with heap := s2.heap.push { cls := .type "list", data := .seq ([] : List Value).toArray } } (upd H2 s2.heap.objs.size (.lst [])) fp (X.pn ++ pins)) []
      (capSt own.length (caps.map (·.1)) σ) (upd H2 s2.heap.objs.size (.lst [])) { s2 with heap := h₁, toks := tk } := by
  have hcl : ∀ x ∈ scope.names, x.2 = .free → ∃ c, X.env.cells.lookup x.1 = some c := fun x hx hk => I2.ok.has x.1 (S.free x hx hk)
  have cf : ∀ x c, (clos X.env scope.names []).lookup x = some c → X.env.cells.lookup x = some c := clos_from hcl (fun x c e => by simp at e)
  have I3 := I2.lnew (its := []) (ys := []) (t' := s2.toks) .nil (Nat.zero_le _)
  refine ⟨comp_ok S I2 f2 hfp _, rfl, I2.bare, Un.kept keep, ⟨m, hns, fun i x v h1 h2 hv => ?_⟩, fun x c e => ?_, ?_, fun x c e => I3.freeC x c (cf x c e), fun p hp => ?_, I3.hok.kept keep, by simp [capSt, compCx]⟩
  · obtain ⟨j, hn, hc, hj⟩ := cap_get (l := σ) h2
    have hx : (caps.map (·.2))[i - own.length]? = some x := by
      have : (own ++ caps.map (·.2))[i]? = some x := h1
      rwa [List.getElem?_append_right hn] at this
    rw [List.getElem?_map] at hc hx
    cases ep : caps[i - own.length]? with
    | none => rw [ep] at hc; cases hc
    | some p =>
      rw [ep] at hc hx
      cases hc
      cases hx
      obtain ⟨hN, hf⟩ := S.cap p (List.mem_of_getElem? ep)
      obtain ⟨y, hy, k1, k2⟩ := mem_lookup hf
      have hk := S.free y hy k1
      rw [k2] at hk
      obtain ⟨m3, hn3, hl3⟩ := I3.loc
      have vis : Vis X.env.scope p.2 := by
        rcases hk with hk | hk
        · exact .inr (.inl hk)
        · exact .inr (.inr hk)
      obtain ⟨u, ru, lu⟩ := hl3 p.1 p.2 v hN hj vis
      refine ⟨u, ru, .inr ⟨?_, ?_⟩⟩
      · obtain ⟨k', e1, e2⟩ := lookup_relabel (env := X.env) hf
        rcases e2 with rfl | ⟨_, rfl⟩
        · exact .inr e1
        · exact .inl e1
      · rcases lu with ⟨q, _⟩ | ⟨_, c, hc, hcell⟩
        · rcases hk with hk | hk
          · rw [hk] at q; cases q
          · rw [hk] at q; cases q
        · obtain ⟨c', hc'⟩ := clos_has (env := X.env) (l := scope.names) (cs := []) (x := p.2) (.inl ⟨y, hy, k1, k2⟩)
          have := cf _ _ hc'
          rw [hc] at this
          cases this
          obtain ⟨oc, ho, hd⟩ := hcell
          exact ⟨c, hc', oc, keep _ _ ho, hd⟩
  · obtain ⟨v, oc, ho, hd⟩ := I3.cell x c (cf x c e)
    exact ⟨v, oc, keep _ _ ho, hd⟩
  · exact I3.hok.fresh (Nat.le_refl _)
  · have hp' : p ∈ X.pn ++ pins := by simpa [compCx] using hp
    obtain ⟨h1, h2, h3, h4, h5⟩ := I3.pin p hp'
    refine ⟨keep _ _ h1, h2, Nat.ne_of_lt (Heap.lt_size h1), fun z => ?_, h5⟩
    rcases List.mem_cons.mp (I2.stkSub p.1 z) with q | q
    · exact h3 q
    · exact h4 q
/-- behind it -/
theorem comp_after {pins : List (Addr × Obj)} {σ σ' : L2.St} {H2 H' : Hp} {s2 s' : Shared} {fp : List Addr} {N' : List Str} (I2 : L2.Inv X pins σ H2 s2) (f2 : ∀ b ∈ fp, FpOk X pins H2 b)
    (J : L2.Inv (compCx X N' scope (clos X.env scope.names []) (s2.heap.push { cls := .type "list", data := .seq ([] : List Value).toArray }).objs.size { s2 with heap := s2.heap.push { cls := .type "list", data := .seq ([] : List Value).toArray } } (upd H2 s2.heap.objs.size (.lst [])) fp (X.pn ++ pins)) [] σ' H' s')
    {h' : Heap} (sb : Heap.SameBut (s2.heap.push { cls := .type "list", data := .seq ([] : List Value).toArray }).objs.size s'.heap h') : L2.Inv X pins σ H' { s' with heap := h' } := by
  have I3 := I2.lnew (its := []) (ys := []) (t' := s2.toks) .nil (Nat.zero_le _)
  have u := J.base
  have free : H' (s2.heap.push { cls := .type "list", data := .seq ([] : List Value).toArray }).objs.size = none := J.free
  have old : ∀ b o, (s2.heap.push { cls := .type "list", data := .seq ([] : List Value).toArray }).get? b = some o → b ≠ (s2.heap.push { cls := .type "list", data := .seq ([] : List Value).toArray }).objs.size := fun b o e => Nat.ne_of_lt (Heap.lt_size e)
  have eqh : ∀ b, b ≠ (s2.heap.push { cls := .type "list", data := .seq ([] : List Value).toArray }).objs.size → ∀ o, s'.heap.get? b = some o → h'.get? b = some o := fun b hb o e => sb.extBut b o hb e
  have u2 : Un (frs X.stack) fp (upd H2 s2.heap.objs.size (.lst [])) H' (s2.heap.push { cls := .type "list", data := .seq ([] : List Value).toArray }) h' := by
    refine ⟨fun b o e n hf hx => eqh b (old b o e) _ (u.keep b o e n hf hx), fun b o e n hf hx => ?_, u.free, fun b o e hx => ?_, u.tups, u.frzs, u.tbls⟩
    · obtain ⟨sl, q⟩ := u.slot b o e n hf hx
      exact ⟨sl, eqh b (old b o e) _ q⟩
    · obtain ⟨o', q⟩ := u.there b o e hx
      exact ⟨o', eqh b (old b o e) _ q⟩
  have hok : HOk X.prog X.w H' h' := fun b o e => by
    refine (J.hok b o e).stay (fun c v hc q => eqh c (fun z => ?_) v q) (fun _ q => q) fun _ _ q => q
    rcases hc with rfl | hc
    · rw [z, free] at e
      cases e
    · rw [z, free] at hc
      cases hc
  have hos := J.os
  have hbare := J.bare
  obtain ⟨hh, g, d, t, os⟩ := s'
  obtain rfl : os = s2.os := hos
  have fin := I3.call (h' := h') (g' := g) (d' := d) (t' := t) (ch := fp) u2 hok hbare fun b hb => ⟨(f2 b hb).2.2.2.1, (f2 b hb).2.1, (f2 b hb).2.2.2.2.1, (f2 b hb).2.2.2.2.2⟩
  exact fin
/-- the loop of a comprehension by trees -/
theorem comp_loop {X' : Cx} {R : Result → Shared → Prop} {J : It} {fp : List Addr} {it' D : Addr} {tn : Nat → Heap → Prop} {F₀ O F1 : Addr → Prop} {H₀ H2 : Hp} {ts ys : List T} (hx : X'.xe = fun _ _ => False) (hc : X'.calm = true) (hg : PGt X' tg gg) (ht : PTs X' ifs cc) (he : PEv X' elt ee)
    (T : Turn X'.prog X'.w X'.K tg J fp it' tn) (stat : ∀ H' : Hp, (∀ b ∈ fp, H' b = none) → ∀ b ∈ fp, FpOk X' [] H' b) (ok : ItOk X'.K J F1 H2 ts) (hbig : ts.length ≤ big) (hD2 : H2 D = none) (hO : ¬ O D) (hH0 : H₀ D = none)
    (fin : ∀ σ' H' F' s1 vs, L2.Inv X' [] σ' H' s1 → Ext F1 H2 F' H' → H' D = some (.lst vs) → ¬ F' D → RepL X'.K F' H' ys vs → R (.ok .next) s1)
    {s : Shared} {σ : L2.St} {H : Hp} {F : Addr → Prop} {ε : Ev} (I : L2.Inv X' [] σ H s) (st : tn 0 s.heap) (fr : ∀ b ∈ fp, H b = none) (x : Ext F1 H2 F H) (r : RelE X'.K F₀ H₀ O F H ε σ) (hD : H D = some (.lst [])) (nD : ¬ F D) (ey : compL gg cc ee ts ε = some ys) :
    codeAny (model X'.prog X'.w) X'.A (.compLoop (.ListComp elt [⟨tg, iter, ifs, 0⟩] scope pos) 0 (.ref it') (.ref D) X'.env) R s := by
  refine compLoop_any (fun n s' => ∃ i σ' H' F' ε' dn vs, n = ts.length - i ∧ i ≤ ts.length ∧ L2.Inv X' [] σ' H' s' ∧ tn i s'.heap ∧ (∀ b ∈ fp, H' b = none) ∧ Ext F1 H2 F' H' ∧ RelE X'.K F₀ H₀ O F' H' ε' σ' ∧ H' D = some (.lst vs) ∧ ¬ F' D ∧ RepL X'.K F' H' dn vs ∧ dn.length ≤ i ∧
    ∃ rest, compL gg cc ee (ts.drop i) ε' = some rest ∧ ys = dn ++ rest) ?_ ts.length ⟨0, σ, H, F, ε, [], [], rfl, Nat.zero_le _, I, st, fr, x, r, hD, nD, RepL.nil, Nat.le_refl _, ys, by simpa using ey, by simp⟩
  rintro n s3 ⟨i, σ3, H3, F3, ε3, dn, vs, rfl, hi, I3, st3, fr3, x3, r3, hD3, nD3, q3, hl3, rest, er, es⟩
  have nf : ∀ {F4 : Addr → Prop} {H4 : Hp} {F5 : Addr → Prop} {H5 : Hp} {o : HO}, Ext F4 H4 F5 H5 → H4 D = some o → ¬ F4 D → ¬ F5 D := fun y e n z => by
    rcases y.new D z with q | q
    · exact n q
    · rw [e] at q
      cases q
  by_cases hlt : i < ts.length
  · have hd : ts.drop i = ts[i] :: ts.drop (i + 1) := List.drop_eq_getElem_cons hlt
    have hg' : ts[i]? = some ts[i] := List.getElem?_eq_getElem hlt
    rw [hd] at er
    simp only [compL, Option.bind_eq_some_iff] at er
    obtain ⟨ε4, eg, b, eb, er⟩ := er
    refine wpAny_mono (T.item X' rfl rfl rfl hc i [] s3 σ3 H3 (fun _ _ => False) I3 (stat H3 fr3) st3 (ok.go i F3 H3 _ x3.kp r3.dom hg')) (fun rv s4 ⟨u, hr, h4⟩ => ?_) fun _ _ z => z
    subst hr
    refine wpAny_mono h4 (fun _ s5 ⟨x', H5, I5, r5, y5, st5, fr5⟩ => ?_) fun _ _ z => z
    obtain ⟨F5, x5, rx⟩ := ok.yld i F3 H3 _ x' H5 x3.kp r3.dom hg' y5
    have I5' := I5.pinned (stat H5 fr5) (T.obj _ _ st5)
    have hg2 := hg _ s5 σ3 H5 x' u (fun σ6 H6 => H6 = H5 ∧ RelE X'.K F₀ H₀ O F5 H5 ε4 σ6) I5' r5 ⟨F₀, H₀, O, F5, ε3, _, ε4, r3.ext x5, rx, eg, fun σ6 r6 => ⟨rfl, r6⟩⟩
    rw [hx] at hg2
    refine wpAny_mono hg2 (fun _ s6 ⟨σ6, H6, I6, e6, r6⟩ => ?_) fun _ _ z => z
    subst e6
    have again : ∀ {σ7 : L2.St} {H7 : Hp} {s7 : Shared}, L2.Inv X' ([] ++ pinsAt fp s5.heap) σ7 H7 s7 → tn (i + 1) s7.heap ∧ (∀ b ∈ fp, H7 b = none) ∧ L2.Inv X' [] σ7 H7 s7 := fun {σ7 H7 s7} I7 => by
      refine ⟨T.keep _ _ _ st5 fun b hb o e => (I7.pin (b, o) (List.mem_append_right _ (List.mem_append_right _ (mem_pinsAt hb e)))).1, fun b hb => ?_, I7.unpinned⟩
      obtain ⟨o, e, d⟩ := T.obj _ _ st5 b hb
      exact (I7.pin (b, o) (List.mem_append_right _ (List.mem_append_right _ (mem_pinsAt hb e)))).2.1
    have ht2 := ht _ s6 σ6 H6 (fun b' H7 => b' = b ∧ ∃ F7, Ext F5 H6 F7 H7) I6 ⟨F₀, H₀, O, F5, ε4, b, r6, eb, fun F7 H7 x7 => ⟨rfl, F7, x7⟩⟩
    rw [hx] at ht2
    refine wpAny_mono ht2 (fun ok' s7 ⟨H7, I7, e7, F7, x7⟩ => ?_) fun _ _ z => z
    subst e7
    have x37 := x5.trans x7
    have r7 := r6.ext x7
    cases ok' with
    | false =>
      simp only [Bool.false_eq_true, if_false] at er ⊢
      obtain ⟨a1, a2, a3⟩ := again I7
      exact ⟨_, by omega, i + 1, σ6, H7, F7, ε4, dn, vs, rfl, hlt, a3, a1, a2, x3.trans x37, r7, x37.same _ _ hD3, nf x37 hD3 nD3, q3.ext x37, by omega, rest, er, es⟩
    | true =>
      simp only [if_true, Option.bind_eq_some_iff, Option.map_eq_some_iff] at er ⊢
      obtain ⟨y, ey', rest', er', rfl⟩ := er
      have he2 := he _ s7 σ6 H7 (fun v H8 => ∃ F8, Ext F7 H7 F8 H8 ∧ Rep X'.K F8 H8 y v) I7 ⟨F₀, H₀, O, F7, ε4, y, r7, ey', fun v F8 H8 x8 q8 => ⟨F8, x8, q8⟩⟩
      rw [hx] at he2
      refine wpAny_mono he2 (fun u8 s8 ⟨v8, H8, I8, r8, F8, x8, q8⟩ => ?_) fun _ _ z => z
      have x38 := x37.trans x8
      have hD8 := x38.same _ _ hD3
      have nD8 := nf x38 hD3 nD3
      obtain ⟨kp9, r9⟩ := (r7.ext x8).other (ys := vs ++ [v8]) nD8 hO hH0 hD8
      have ha := mt_append (X := X') _ s8 σ6 H8 (.ref D) [v8] (.ref D) [u8] (fun _ H9 => H9 = upd H8 D (.lst (vs ++ [v8]))) I8 rfl (.cons r8 .nil) ⟨D, vs, v8, rfl, rfl, hD8, by rw [sizeL, ← q3.length]; omega, rfl⟩
      rw [hx] at ha
      refine wpAny_mono ha (fun u9 s9 ⟨v9, H9, I9, r9', e9⟩ => ?_) fun _ _ z => z
      subst e9
      obtain ⟨a1, a2, a3⟩ := again I9
      have x9 : Ext F1 H2 F8 (upd H8 D (.lst (vs ++ [v8]))) := by
        have y := x3.trans x38
        refine ⟨fun b o e => ?_, y.sub, y.new, fun b f => ?_⟩
        · have nb : b ≠ D := by
            rintro rfl
            rw [hD2] at e
            cases e
          rw [upd_ne nb]
          exact y.same b o e
        · have nb : b ≠ D := by
            rintro rfl
            exact nD8 f
          rw [upd_ne nb]
          exact y.dom b f
      refine ⟨_, by omega, i + 1, σ6, _, F8, ε4, dn ++ [y], vs ++ [v8], rfl, hlt, a3, a1, a2, x9, r9, upd_same, nD8, ((q3.ext x38).append (RepL.cons q8 RepL.nil)).kp kp9, by simp; omega, rest', er', by rw [es]; simp⟩
  · have hd : ts.drop i = [] := List.drop_eq_nil_of_le (by omega)
    rw [hd] at er
    cases er
    refine wpAny_mono (T.done X' rfl rfl rfl hc i [] s3 σ3 H3 (fun _ _ => False) I3 (stat H3 fr3) st3 (ok.stop i F3 H3 x3.kp (by omega))) (fun rv s4 ⟨hr, I4⟩ => ?_) fun _ _ z => z
    subst hr
    exact fin σ3 H3 F3 s4 vs I4 x3 hD3 nD3 (by rw [es, List.append_nil]; exact q3)
/-- what stands behind the block -/
structure After (X : Cx) (pins : List (Addr × Obj)) (σ : L2.St) (F : Addr → Prop) (H : Hp) (ys : List T) (D C : Addr) (H' : Hp) (F' : Addr → Prop) (s1 : Shared) (vs : List V) : Prop where
  inv : ∀ h', Heap.SameBut C s1.heap h' → L2.Inv X pins σ H' { s1 with heap := h' }
  ns : ∃ m, s1.heap.Ns C m
  free : H' C = none
  above : X.s₀.heap.objs.size ≤ C
  cells : ∀ x c, X.env.cells.lookup x = some c → c ≠ C
  pin : ∀ p ∈ X.pn ++ pins, p.1 ≠ C
  loc : C ≠ X.env.locals
  new : H D = none
  ext : Ext F H F' H'
  nf : ¬ F' D
  lst : H' D = some (.lst vs)
  rep : RepL X.K F' H' ys vs
theorem comp_run {use : Option (Value → Sem Unit)} {Q : Value → Shared → Prop} {p2 : Pos} (S : CompOk X scope own caps) (hi : PIt X tg iter it)
    (hg : ∀ cl C s₀ H₀ fp pn, PGt (compCx X (own ++ caps.map (·.2)) scope cl C s₀ H₀ fp pn) tg gg)
    (ht : ∀ cl C s₀ H₀ fp pn, PTs (compCx X (own ++ caps.map (·.2)) scope cl C s₀ H₀ fp pn) ifs cc)
    (he : ∀ cl C s₀ H₀ fp pn, PEv (compCx X (own ++ caps.map (·.2)) scope cl C s₀ H₀ fp pn) elt ee)
    (hs : ∀ x, foldedSetIterable iter X.env x = pure x) {pins : List (Addr × Obj)} {s : Shared} {σ : L2.St} {H : Hp} {F₀ O F : Addr → Prop} {H₀ : Hp} {ε : Ev} {ys : List T} (I : L2.Inv X pins σ H s) (r : RelE X.K F₀ H₀ O F H ε σ)
    (e : comp own.length (caps.map (·.1)) it gg cc ee ε = some (.list ys)) (fin : ∀ D C H' F' s1 vs, After X pins σ F H ys D C H' F' s1 vs → compPost (model X.prog X.w) X.A X.xe use Q (.ref D) C (.ok .next) s1) :
    wpAny (model X.prog X.w) X.A (comprehension (.ListComp elt [⟨tg, iter, ifs, 0⟩] scope pos) scope X.env p2 (newList []) false (eval iter X.env) use) Q X.xe s := by
  simp only [comp, Option.bind_eq_some_iff] at e
  obtain ⟨ts, et, e⟩ := e
  split at e
  case isFalse => cases e
  next hbig =>
  simp only [Option.map_eq_some_iff] at e
  obtain ⟨ys', ey, e⟩ := e
  cases e
  have hcl : ∀ x ∈ scope.names, x.2 = .free → ∃ c, X.env.cells.lookup x.1 = some c := fun x hx hk => I.ok.has x.1 (S.free x hx hk)
  refine wpAny_comprehension_free rfl hs (closureFor_eq hcl) S.kind S.names (thn (hi pins s σ H (fun J H1 => ∃ F1, Ext F H F1 H1 ∧ ItOk X.K J F1 H1 ts) I ⟨F₀, H₀, O, F, ε, ts, r, et, fun J F1 H1 x1 ok => ⟨F1, x1, ok⟩⟩) fun v s1 h1 => thn h1 fun itv s2 h2 => ?_)
  obtain ⟨it', fp, tn, J, H2, rfl, I2, T, st2, f2, F1, x1, ok⟩ := h2
  have hfp : ∀ b ∈ fp, b < s2.heap.objs.size := fun b hb => by
    obtain ⟨o, ho, _⟩ := T.obj 0 _ st2 b hb
    exact Heap.lt_size ho
  have hD2 : H2 s2.heap.objs.size = none := I2.fresh
  have hD : H s2.heap.objs.size = none := by
    cases z : H s2.heap.objs.size with
    | none => rfl
    | some w =>
      rw [x1.same _ w z] at hD2
      cases hD2
  have sz : (s2.heap.push { cls := .type "list", data := .seq ([] : List Value).toArray }).objs.size = s2.heap.objs.size + 1 := Heap.size_push ..
  refine wpAny_newList ?_ (Nat.zero_le _)
  refine wpAny_newFunctionEnv S.cell (by intro y hy; simp at hy) (fun h₁ hns₁ hsb₁ => ?_) S.kind
  have keep : ∀ b u, (s2.heap.push { cls := .type "list", data := .seq ([] : List Value).toArray }).get? b = some u → h₁.get? b = some u := fun b u e => hsb₁.extBut b u (Nat.ne_of_lt (Heap.lt_size e)) (Heap.get?_push_of_some _ e)
  have I4 := comp_inv (tk := s2.toks + 0) S I2 f2 hfp hns₁ keep
  have r4 := (r.ext x1).cap (D := s2.heap.objs.size) own.length S.nd hD2
  refine codeAny_compStart_list ?loop (T.self _ 0 _ _ _ (T.keep 0 _ _ st2 fun b hb o e => keep b o (Heap.get?_push_of_some _ e)) ?loop)
  refine comp_loop (X' := compCx X (own ++ caps.map (·.2)) scope (clos X.env scope.names []) (s2.heap.push { cls := .type "list", data := .seq ([] : List Value).toArray }).objs.size { s2 with heap := s2.heap.push { cls := .type "list", data := .seq ([] : List Value).toArray } } (upd H2 s2.heap.objs.size (.lst [])) fp (X.pn ++ pins))
    rfl S.calm (hg _ _ _ _ _ _) (ht _ _ _ _ _ _) (he _ _ _ _ _ _) T (fun H' hn b hb => ?_) ok hbig hD2 (fun z => z.2 rfl) (r.o0 _ (r.fr _ hD)) (fun σ' H' F' s1 vs J1 x' hD' nD' q' => ?_) I4 (T.keep 0 _ _ st2 fun b hb o e => keep b o (Heap.get?_push_of_some _ e)) (fun b hb => ?_) (Ext.laid x1.dom hD2) r4 upd_same ?_ ey
  · have okX := comp_ok S I2 f2 hfp (own ++ caps.map (·.2))
    refine ⟨hn b hb, (okX.exf b hb).1, okX.exfs b hb, .inl hb, fun x c e => (okX.exf b hb).2 x c e, fun p hp => ?_⟩
    have hp' : p ∈ X.pn ++ pins := by simpa [compCx] using hp
    exact (f2 b hb).2.2.2.2.2 p hp'
  · obtain ⟨m, hn, _⟩ := id J1.loc
    refine fin s2.heap.objs.size _ H' F' s1 vs ⟨fun h' sb => comp_after I2 f2 J1 sb, ⟨m, hn⟩, J1.free, ?_, fun x c e z => ?_, fun p hp z => ?_, ?_, hD, x1.trans x', nD', hD', q'⟩
    · rw [sz]
      exact Nat.le_succ_of_le I2.sz
    · obtain ⟨v, q⟩ := I2.cell x c e
      have := q.lt
      rw [z, sz] at this
      exact absurd this (Nat.not_lt.mpr (Nat.le_succ _))
    · have := Heap.lt_size (I2.pin p hp).1
      rw [z, sz] at this
      exact absurd this (Nat.not_lt.mpr (Nat.le_succ _))
    · have := I2.lt
      rw [sz]
      exact Nat.ne_of_gt (Nat.lt_succ_of_lt this)
  · have := (f2 b hb).1
    rw [upd_ne (Nat.ne_of_lt (hfp b hb))]
    exact this
  · intro z
    obtain ⟨o, e⟩ := x1.dom _ z
    rw [hD2] at e
    cases e
/-- [elt for tg in iter if ..] -/
theorem q_comp (S : CompOk X scope own caps) (hi : PIt X tg iter it)
    (hg : ∀ cl C s₀ H₀ fp pn, PGt (compCx X (own ++ caps.map (·.2)) scope cl C s₀ H₀ fp pn) tg gg)
    (ht : ∀ cl C s₀ H₀ fp pn, PTs (compCx X (own ++ caps.map (·.2)) scope cl C s₀ H₀ fp pn) ifs cc)
    (he : ∀ cl C s₀ H₀ fp pn, PEv (compCx X (own ++ caps.map (·.2)) scope cl C s₀ H₀ fp pn) elt ee)
    (hs : ∀ x, foldedSetIterable iter X.env x = pure x := by intro _; rfl) : PEn X (.ListComp elt [⟨tg, iter, ifs, 0⟩] scope pos) (comp own.length (caps.map (·.1)) it gg cc ee) := by
  intro pins s σ H Q I ⟨F₀, H₀, O, F, ε, ys, r, e, k⟩
  rw [eval_ListComp]
  refine comp_run S hi hg ht he hs I r e fun D C H' F' s1 vs a => ?_
  obtain ⟨m, hn⟩ := a.ns
  exact ⟨m, hn, fun h' sb => ⟨.ref D, H', a.inv h' sb, rfl, k D vs F' H' a.ext a.new a.nf a.lst a.rep⟩⟩
theorem comp_list {ε : Ev} {n : Nat} {cs : List Nat} {t : T} (e : comp n cs it gg cc ee ε = some t) : ∃ ts, t = .list ts := by
  simp only [comp, Option.bind_eq_some_iff] at e
  obtain ⟨ts, _, e⟩ := e
  split at e
  · simp only [Option.map_eq_some_iff] at e
    obtain ⟨ys, _, e⟩ := e
    exact ⟨ys, e.symm⟩
  · cases e
theorem q_compV (S : CompOk X scope own caps) (hi : PIt X tg iter it)
    (hg : ∀ cl C s₀ H₀ fp pn, PGt (compCx X (own ++ caps.map (·.2)) scope cl C s₀ H₀ fp pn) tg gg)
    (ht : ∀ cl C s₀ H₀ fp pn, PTs (compCx X (own ++ caps.map (·.2)) scope cl C s₀ H₀ fp pn) ifs cc)
    (he : ∀ cl C s₀ H₀ fp pn, PEv (compCx X (own ++ caps.map (·.2)) scope cl C s₀ H₀ fp pn) elt ee)
    (hs : ∀ x, foldedSetIterable iter X.env x = pure x := by intro _; rfl) : PEv X (.ListComp elt [⟨tg, iter, ifs, 0⟩] scope pos) (comp own.length (caps.map (·.1)) it gg cc ee) :=
  n2v (q_comp S hi hg ht he hs) fun ε t e => comp_list e
/-- x = [elt for tg in iter if ..], the store amid the comprehension -/
theorem s_asgC (i : Nat) {x : Str} {px spos : Pos} (hN : X.N.Nodup) (S : CompOk X scope own caps) (hit : PIt X tg iter it)
    (hg : ∀ cl C s₀ H₀ fp pn, PGt (compCx X (own ++ caps.map (·.2)) scope cl C s₀ H₀ fp pn) tg gg)
    (ht : ∀ cl C s₀ H₀ fp pn, PTs (compCx X (own ++ caps.map (·.2)) scope cl C s₀ H₀ fp pn) ifs cc)
    (he : ∀ cl C s₀ H₀ fp pn, PEv (compCx X (own ++ caps.map (·.2)) scope cl C s₀ H₀ fp pn) elt ee)
    (hi : X.N[i]? = some x := by rfl) (hx : Loc X.env.scope x := by first | exact Or.inl rfl | exact Or.inr rfl)
    (hsw : swapsWith (.ListComp elt [⟨tg, iter, ifs, 0⟩] scope pos) (some (.Name x px)) spos.line X.env = pure true := by rfl)
    (hf : X.fn x = true ∨ X.env.scope.names.lookup x = some .local := by first | exact .inl rfl | exact .inr rfl)
    (hs : ∀ x, foldedSetIterable iter X.env x = pure x := by intro _; rfl) :
    PSt X (.Assign [.Name x px] (.ListComp elt [⟨tg, iter, ifs, 0⟩] scope pos) spos) (asg i (comp own.length (caps.map (·.1)) it gg cc ee)) := by
  intro pins s σ H D I ⟨F₀, H₀, O, F, ε, o, r, e, k⟩
  simp only [asg, Option.map_eq_some_iff] at e
  obtain ⟨t, et, rfl⟩ := e
  obtain ⟨ys, rfl⟩ := comp_list et
  rw [exec_Assign_Name_used _ _ _ _ hsw]
  refine wpAny_bind (wpAny_standAt (wpAny_bind ?_))
  show wpAny _ X.A (do let _ ← comprehension (.ListComp elt [⟨tg, iter, ifs, 0⟩] scope pos) scope X.env _ (newList []) false (eval iter X.env) (some (assign (.Name x px) X.env))) _ _ s
  refine wpAny_bind (thn (comp_run (use := some (assign (.Name x px) X.env)) (Q := fun _ s' => SP X pins D .next s') S hit hg ht he hs I r et fun D' C H' F' s1 vs a => ?_) fun _ s' hq => wpAny_pure (wpAny_pure hq))
  have IX := a.inv s1.heap (Heap.SameBut.refl ..)
  have IX' : L2.Inv X pins σ H' s1 := IX
  show wpAny _ X.A (assign (.Name x px) X.env (.ref D')) _ _ _
  refine wpAny_assign_Name (store_ok2 (v := .ref D') IX' hN hi hx rfl (fun s2 I2 ⟨b, sb, hb⟩ => ?_) hf)
  obtain ⟨m, hn⟩ := a.ns
  have nb : C ≠ b := by
    rcases hb with rfl | hb
    · exact a.loc
    · exact (a.cells x b hb).symm
  refine ⟨m, hn.sameBut sb nb, fun h' sb' => ?_⟩
  have I3 : L2.Inv X pins (σ.set i (some (.ref D'))) H' { s2 with heap := h' } := I2.turned (t' := s2.toks) (it := C) (fun b o hb e => sb'.extBut b o hb e) a.free a.loc (.inr a.above) a.cells a.pin
  refine ⟨_, H', I3, ?_⟩
  have y : Ext F H (fun b => F' b ∨ b = D') H' := ⟨a.ext.same, fun b z => .inl (a.ext.sub b z), fun b z => by
    rcases z with z | rfl
    · exact a.ext.new b z
    · exact .inr a.new, fun b z => by
    rcases z with z | rfl
    · exact a.ext.dom b z
    · exact ⟨_, a.lst⟩⟩
  refine k _ _ H' y.kp ((r.ext y).set i ?_)
  simp only [Rep]
  exact ⟨D', vs, rfl, .inr rfl, .inl a.lst, a.rep.keep (fun _ _ z => z) fun b _ z w => ⟨.inl z, w⟩⟩
end
end D
end
section
set_option linter.all false
set_option Elab.async false
set_option maxRecDepth 100000
set_option autoImplicit false
namespace D
open PySem PySem.Spec PyProof.Rows L2
open AutoSeq1 (wpAny_loadPart')

/-! ### enumerate(t), t a tuple -/
theorem meets_enumerate_newT (l : Addr) (items : Array Value) (n : Nat) (dct : Option Addr) (sl : Array (Option Value)) :
    Meets (Builtin.«enumerate.__new__» ⟨[.type "enumerate", .ref l], []⟩) (fun _ R s => s.heap.get? l = some { cls := .type "tuple", dict := dct, data := .seq items n, slots := sl } ∧
      R (.ok (.ret (.ref (s.heap.push { cls := .type "tuple_iterator", data := .fields #[.ref l, .int 0 0] }).objs.size)))
        { s with heap := (s.heap.push { cls := .type "tuple_iterator", data := .fields #[.ref l, .int 0 0] }).push { cls := .type "enumerate", data := .fields #[.none, .bool false, .ref s.heap.objs.size, rawInt 0, .none, .none] } }) :=
  .of_wp fun prog w A R s h => by
    obtain ⟨hp, g, d, tk, os⟩ := s; obtain ⟨hl, h⟩ := h
    have hsub := sub_enumerate
    have hL : Heap.IsTuple (Shared.heap ⟨hp, g, d, tk, os⟩) l items := ⟨_, hl, rfl, n, rfl⟩
    wp_walk using wpAny_loadPart' hl
    refine wpAny_stack_any fun st => wpAny_pure ?_
    split
    · rename_i c _ _ _ _ _
      cases (c == Value.type "enumerate")
      · wp_walk using wpAny_loadPart' hl, wpAny_pyIter_tuple hL
        exact ⟨_, rfl, h⟩
      · wp_walk using wpAny_loadPart' hl, wpAny_pyIter_tuple hL
        exact ⟨_, rfl, h⟩
    · wp_walk using wpAny_loadPart' hl, wpAny_pyIter_tuple hL
      exact ⟨_, rfl, h⟩
section
variable {prog : Program} {w : World} {A : Around} {E : Value → Shared → Prop} {s : Shared}
theorem call_enumerate_tuple {l : Addr} {items : Array Value} {Q : Value → Shared → Prop} (hL : s.heap.IsTuple l items)
    (h : ∀ h', IsEnum h' (s.heap.objs.size + 1) s.heap.objs.size 0 .none → h'.IsTupleIter s.heap.objs.size l 0 → h'.objs.size = s.heap.objs.size + 2 →
      (∀ b o, s.heap.get? b = some o → h'.get? b = some o) → Q (.ref (s.heap.objs.size + 1)) { s with heap := h' }) :
    wpAny (model prog w) A (call (.type "enumerate") [.ref l]) Q E s := by
  obtain ⟨⟨c, dct, dt, sl⟩, hl, hc, n, hd⟩ := hL
  replace hc : c = .type "tuple" := hc
  replace hd : dt = .seq items n := hd
  subst hc hd
  refine callType_new F.called_enumerate (by decide) (F.typeCall_enumerate_1 _) (F.newCall_enumerate_1 _) (fun obj => F.args_object_init_2 obj _) F.entry_enumerate_new
    (meets_enumerate_newT l items n dct sl) ⟨hl, ?_⟩
  have hz : (s.heap.push { cls := .type "tuple_iterator", data := .fields #[.ref l, .int 0 0] }).objs.size = s.heap.objs.size + 1 := Heap.size_push ..
  show _ ∧ _
  rw [hz]
  have he : IsEnum ((s.heap.push { cls := .type "tuple_iterator", data := .fields #[.ref l, .int 0 0] }).push
      { cls := .type "enumerate", data := .fields #[.none, .bool false, .ref s.heap.objs.size, rawInt 0, .none, .none] }) (s.heap.objs.size + 1) s.heap.objs.size 0 .none := by
    have := Heap.get?_push_size (s.heap.push { cls := .type "tuple_iterator", data := .fields #[.ref l, .int 0 0] })
      (o := { cls := .type "enumerate", data := .fields #[.none, .bool false, .ref s.heap.objs.size, rawInt 0, .none, .none] }) rfl
    rw [hz] at this; exact this
  refine ⟨⟨_, he, rfl⟩, h _ he ⟨_, Heap.get?_push_of_some _ (Heap.get?_push_size _ rfl), rfl, rfl⟩ (by rw [Heap.size_push, hz]) fun b o x => Heap.get?_push_of_some _ (Heap.get?_push_of_some _ x)⟩
theorem nextOf_tuple_item {it l : Addr} {i : Nat} {items} {x : Value} {Q : Value → Shared → Prop} (hit : s.heap.IsTupleIter it l i)
    (hl : s.heap.IsTuple l items) (hx : items[i]? = some x)
    (hQ : ∀ h', h'.IsTupleIter it l (i + 1) → Heap.SameBut it s.heap h' → Q x { s with heap := h' }) :
    wpAny (model prog w) A (Builtin.SmallTypes.nextOf (.ref it)) Q E s := by
  obtain ⟨o, ho, hc, hd⟩ := id hit
  obtain ⟨ol, hol, _, nl, hdl⟩ := hl
  unfold Builtin.SmallTypes.nextOf
  refine wpAny_bind (wpAny_callSpecial?_slot (name := Str.ofString "__next__") hit.typeIs F.slot_tuple_iterator_next
    (wpAny_call_entry F.slot_tuple_iterator_next hit.typeIs F.entry_tuple_iterator_next ?_ (F.args_tuple_iterator_next_1 _)))
  show wpAny _ _ (field (.ref it) 0 >>= _) _ _ s
  refine wpAny_bind (wpAny_field ho hd (x := .ref l) rfl ?_)
  show wpAny _ _ (if (Value.ref l == Value.none) = true then _ else _) _ _ s
  rw [if_neg (show ¬ ((Value.ref l == Value.none) = true) from Bool.false_ne_true)]
  show wpAny _ _ (field (.ref it) 1 >>= _) _ _ s
  refine wpAny_bind (wpAny_field ho hd (x := .int i 0) rfl ?_)
  show wpAny _ _ (seqItems? (.ref l) >>= _) _ _ s
  refine wpAny_bind (wpAny_seqItems hol hdl ?_)
  simp only [Int.toNat_natCast, hx]
  refine wpAny_bind (wpAny_setField ho hd (by simp) (wpAny_pure ⟨x, rfl, wpAny_pure (hQ _ ?_ (Heap.SameBut.update ..))⟩))
  exact ⟨_, Heap.get?_update_self _ ho (Obj.isFreed_of_fields (Obj.data_mapFields hd _)), (Obj.cls_mapFields ..).trans hc, by
    rw [Obj.data_mapFields hd]; simp [rawInt]⟩
theorem nextOf_tuple_end {it l : Addr} {i : Nat} {items} {Q : Value → Shared → Prop} (hh : A.handled = none)
    (hit : s.heap.IsTupleIter it l i) (hl : s.heap.IsTuple l items) (hx : items[i]? = none)
    (hE : ∀ h' e, Heap.ExtBut it s.heap h' → (∃ o, h'.get? e = some o ∧ o.cls = .type "StopIteration") → E (.ref e) { s with heap := h' }) :
    wpAny (model prog w) A (Builtin.SmallTypes.nextOf (.ref it)) Q E s := by
  obtain ⟨o, ho, hc, hd⟩ := id hit
  obtain ⟨ol, hol, _, nl, hdl⟩ := hl
  unfold Builtin.SmallTypes.nextOf
  refine wpAny_bind (wpAny_callSpecial?_slot (name := Str.ofString "__next__") hit.typeIs F.slot_tuple_iterator_next
    (wpAny_call_entry F.slot_tuple_iterator_next hit.typeIs F.entry_tuple_iterator_next ?_ (F.args_tuple_iterator_next_1 _)))
  show wpAny _ _ (field (.ref it) 0 >>= _) _ _ s
  refine wpAny_bind (wpAny_field ho hd (x := .ref l) rfl ?_)
  show wpAny _ _ (if (Value.ref l == Value.none) = true then _ else _) _ _ s
  rw [if_neg (show ¬ ((Value.ref l == Value.none) = true) from Bool.false_ne_true)]
  show wpAny _ _ (field (.ref it) 1 >>= _) _ _ s
  refine wpAny_bind (wpAny_field ho hd (x := .int i 0) rfl ?_)
  show wpAny _ _ (seqItems? (.ref l) >>= _) _ _ s
  refine wpAny_bind (wpAny_seqItems hol hdl ?_)
  simp only [Int.toNat_natCast, hx]
  refine wpAny_bind (wpAny_rule (wpAny_bind (wpAny_setField ho hd (by simp) ?_)))
  show wpAny _ _ (newExc (.type "StopIteration") [] >>= _) _ _ _
  refine wpAny_bind ?_
  simp only [newExc, newTuple]
  refine wpAny_bind (wpAny_newObj_type ?_ (by size_fits))
  refine wpAny_bind (m := firstArgMember _ _) (wpAny_of_eq (a := Value.none) (by first | rfl | (simp only [firstArgMember]; rfl)) ?_)
  refine wpAny_newObj_type ?_ (by size_fits)
  simp only [raiseNew]
  refine wpAny_bind (wpAny_handled ?_)
  first | rw [show A.in1.handled = none from hh] | rw [hh]
  refine wpAny_bind (wpAny_pure (wpAny_throw ?_))
  exact hE _ _ (((Heap.SameBut.update ..).extBut.push _).push _) ⟨_, Heap.get?_push_size _ rfl, rfl⟩
end
theorem draws_tuple {prog : Program} {w : World} {A : Around} (hh : A.handled = none) (it l : Addr) (hne : l ≠ it) (items : Array Value) :
    Draws prog w A it [it, l] items.size (fun i v => items[i]? = some v) (fun i h => h.IsTupleIter it l i ∧ h.IsTuple l items) where
  live := fun _ _ st => let ⟨o, ho, _⟩ := st.1; ⟨o, ho⟩
  frame := fun _ _ _ st hk => ⟨st.1.at fun o e => hk it (by simp) o e, let ⟨o, ho, r⟩ := st.2; ⟨o, hk l (by simp) o ho, r⟩⟩
  item := fun i s Q E hi st hQ => by
    refine nextOf_tuple_item st.1 st.2 (x := items[i]) (by simp [hi]) fun h' hit' hs' => ?_
    exact hQ _ h' s.toks (by simp [hi]) ⟨hit', st.2.extBut hs'.extBut hne⟩ hs'
  done := fun s Q E st hE => nextOf_tuple_end hh st.1 st.2 (by simp) hE
/-- the pairs of a tuple's items -/
def Ite (K : PySem.W.Frag) (a : Addr) : It :=
  ⟨fun i H => ∃ xs x, SqT K H a xs ∧ xs[i]? = some x, fun i H x H' => ∃ p v, H p = none ∧ x = .ref p ∧ H' = upd H p (.tup [.int i, v]) ∧ ∀ xs, SqT K H a xs → xs[i]? = some v, fun i H => ∃ xs, SqT K H a xs ∧ xs.length ≤ i⟩
theorem turn_enum {P : Program} {w : World} {K : PySem.W.Frag} {es : List Expr} {k : Nat} {pos : Pos} (a it e : Addr) (hne : e ≠ it) (hai : a ≠ it) (hae : a ≠ e) : Turn P w K (.Tuple es k pos) (Ite K a) [e, it] e (fun i h => (∃ old, IsEnum h e it i old) ∧ h.IsTupleIter it a i) where
  mem := by simp
  obj := fun i h st b hb => by
    obtain ⟨⟨old, he⟩, o, ho, hc, hd⟩ := st
    rcases List.mem_cons.mp hb with rfl | hb
    · exact ⟨_, he, fun v z => by
        have z' : Data.fields _ = Data.cell v := z
        cases z'⟩
    · have e1 : b = it := by simpa using hb
      subst e1
      exact ⟨o, ho, fun v z => by rw [hd] at z; cases z⟩
  keep := fun i h h' st kk => by
    obtain ⟨⟨old, he⟩, st2⟩ := st
    exact ⟨⟨old, kk e (by simp) _ he⟩, st2.at fun o q => kk it (by simp) o q⟩
  item := by
    intro X hP hw hK hc i pins s σ H E I hf st hg
    subst hP hw hK
    obtain ⟨xs, x, hq, hx⟩ := hg
    obtain ⟨its, rv, p, hz⟩ := I.tuple hq
    obtain ⟨u, hu, ru⟩ := rv.get hx
    obtain ⟨⟨old, he⟩, hit⟩ := st
    obtain ⟨f0, f1, f2, f3, f4, f5⟩ := hf e (by simp)
    obtain ⟨g0, g1, g2, g3, g4, g5⟩ := hf it (by simp)
    have hi : i < its.toArray.size := by
      rw [List.size_toArray]
      exact (List.getElem?_eq_some_iff.mp hu).1
    have hnf : e ∉ [it, a] := by
      intro z
      rcases List.mem_cons.mp z with z | z
      · exact hne z
      · have z' : e = a := by simpa using z
        exact hae z'.symm
    refine wpAny_pyNext_enum_itemD (draws_tuple (A := X.A.in1) (I.ok.hd hc) it a hai its.toArray) he ⟨hit, p⟩ hi hne hnf fun x' h' tk hP' ho hs' hT hsz hk => ?_
    have ex : x' = u := by
      have := hP'
      rw [← Array.getElem?_toList] at this
      rw [show (its.toArray).toList = its from rfl, hu] at this
      exact (Option.some.inj this).symm
    subst ex
    refine ⟨_, rfl, wpAny_letOwnedTupleGo_enum ho fun h2 he2 hs2 => ?_⟩
    have helt : e < s.heap.objs.size := Heap.lt_size he
    have hilt : it < s.heap.objs.size := by obtain ⟨o, ho', _⟩ := hit; exact Heap.lt_size ho'
    -- the new tuple, e and it turned
    have k2 : ∀ b o, b ≠ e → b ≠ it → s.heap.get? b = some o → h2.get? b = some o := fun b o h1 h3 q => hs2.extBut b o h1 (hk b o h1 h3 q)
    have fr : H s.heap.objs.size = none := I.hok.fresh (Nat.le_refl _)
    have hT2 : h2.get? s.heap.objs.size = some { cls := .type "tuple", data := .seq #[.int i tk, x'] } := hs2.extBut _ _ (Nat.ne_of_gt helt) hT
    have nH : ∀ b o, H b = some o → b ≠ e ∧ b ≠ it := fun b o q => ⟨fun z => (by rw [z, f0] at q; cases q), fun z => (by rw [z, g0] at q; cases q)⟩
    have hok2 : HOk X.prog X.w (upd H s.heap.objs.size (.tup [.int i, x])) h2 := by
      intro b o q
      by_cases hb : b = s.heap.objs.size
      · subst hb
        rw [upd_same] at q
        cases q
        exact ⟨by show 2 ≤ sizeLine; decide, [.int i tk, x'], .cons ⟨tk, rfl⟩ (.cons ru .nil), ⟨_, hT2, rfl, _, rfl⟩⟩
      · rw [upd_ne hb] at q
        refine (I.hok b o q).stay (fun c v hc' q' => k2 c v ?_ ?_ q') (fun c q' => ?_) fun c ys q' => ?_
        · rcases hc' with rfl | hc'
          · exact (nH _ _ q).1
          · exact (nH _ _ hc').1
        · rcases hc' with rfl | hc'
          · exact (nH _ _ q).2
          · exact (nH _ _ hc').2
        · rw [upd_ne (ne_of_none q' fr)]
          exact q'
        · rw [upd_ne (ne_of_none q' fr)]
          exact q'
    have I2 : L2.Inv X pins σ (upd H s.heap.objs.size (.tup [.int i, x])) { s with heap := h2, toks := tk + 1 } := by
      refine I.step (g' := s.gens) (d' := s.drawn) (ch := [e, it]) (fun b hb => ?_) (fun b o _ _ hc' q _ => k2 b o (fun z => hc' (by simp [z])) (fun z => hc' (by simp [z])) q) (fun b o _ _ hc' q _ => ⟨o.slots, k2 b o (fun z => hc' (by simp [z])) (fun z => hc' (by simp [z])) q⟩) (fun b o _ q n => ?_)
        (fun b o hc' q => ⟨o, k2 b o (fun z => hc' (by simp [z])) (fun z => hc' (by simp [z])) q⟩) (fun b ys q => by rw [upd_ne (ne_of_none q fr)]; exact q) (fun b o u q => by rw [upd_ne (ne_of_none q fr)]; exact q) (fun b ps q => ⟨#[], by rw [upd_ne (ne_of_none q fr), q]; simp⟩) (fun m hm => ?_) hok2 I.bare
      · rcases List.mem_cons.mp hb with rfl | hb
        · exact ⟨f3, f1, f4, f5⟩
        · have : b = it := by simpa using hb
          subst this
          exact ⟨g3, g1, g4, g5⟩
      · rw [upd_ne (Nat.ne_of_lt (Heap.lt_size q))]
        exact n
      · obtain ⟨o, es', ep, ho', r⟩ := hm
        exact ⟨o, es', ep, k2 _ o (Ne.symm f1) (Ne.symm g1) ho', r⟩
    refine ⟨.ref s.heap.objs.size, _, I2, rfl, ⟨s.heap.objs.size, x, fr, rfl, rfl, fun ys hy => by rw [I.tuple_inj hy hq]; exact hx⟩, ⟨⟨_, by simpa using he2⟩, hs'.1.at fun o q => (hs2.2 it hne.symm).trans q⟩, fun b hb => ?_⟩
    rcases List.mem_cons.mp hb with rfl | hb
    · rw [upd_ne (Nat.ne_of_lt helt)]
      exact f0
    · have : b = it := by simpa using hb
      subst this
      rw [upd_ne (Nat.ne_of_lt hilt)]
      exact g0
  done := by
    intro X hP hw hK hc i pins s σ H E I hf st hg
    subst hP hw hK
    obtain ⟨xs, hq, hx⟩ := hg
    obtain ⟨its, rv, p, hz⟩ := I.tuple hq
    obtain ⟨⟨old, he⟩, hit⟩ := st
    obtain ⟨g0, g1, g2, g3, g4, g5⟩ := hf it (by simp)
    have hT : s.TypeIs (.ref e) "enumerate" := ⟨_, he, rfl⟩
    have hl := rv.length
    unfold pyNext
    refine wpAny_bind (wpAny_attempt (wpAny_callSpecial?_slot (name := Str.ofString "__next__") hT F.slot_enumerate_next
      (wpAny_call_entry F.slot_enumerate_next hT F.entry_enumerate_next ?_ (F.args_enumerate_next_1 _))))
    show wpAny _ _ (field (.ref e) 2 >>= _) _ _ _
    refine wpAny_bind (wpAny_field he rfl (x := .ref it) rfl ?_)
    refine wpAny_bind (nextOf_tuple_end (I.ok.hd hc) hit (show s.heap.IsTuple a its.toArray from p) (by simp; omega) fun h' x he' hx' => ?_)
    obtain ⟨o, ho, hc'⟩ := hx'
    refine wpAny_bind (wpAny_isInstance (T := "StopIteration") (b := true) ⟨o, ho, hc'⟩ isSubtype_stop ?_)
    exact wpAny_pure ⟨rfl, I.turned (t' := s.toks) (fun b o hb q => he' b o hb q) g0 g1 g3 g4 g5⟩
  self := fun _ _ _ _ _ st h => by
    obtain ⟨⟨old, he⟩, _⟩ := st
    exact wpAny_pyIter_enum he h
def iEn (K : PySem.W.Frag) (ta : TA) : TI := fun σ H R => ta σ H fun vs H1 => ∃ a xs, vs = [.ref a] ∧ SqT K H1 a xs ∧ R (Ite K a) H1
section
variable {X : Cx} {es : List Expr} {k : Nat} {p pos p2 : Pos} {a : Expr} {f : Fe}
theorem pi_enum {ta : TA} (hg : Gl X "enumerate") (hm : X.mg "enumerate" = none) (ha : PA X [a] ta) (hs : starEach [a] X.env = [(false, eval a X.env)] := by rfl) : PI X (.Tuple es k p2) (.Call (.Name "enumerate" p) [a] [] pos) (iEn X.K ta) := by
  intro pins s σ H R I h
  refine Call_ (ld_blt I hg hm PyProof.Rows.boot_enumerate (PyProof.Rows.callWith_type1 (thn (ha pos pins s σ H _ I h) fun us s1 ⟨vs, H1, I1, r1, q1⟩ => ?_) hs rfl))
  obtain ⟨a, xs, rfl, hq, q⟩ := q1
  cases r1 with
  | cons r rr =>
    cases rr
    cases r
    obtain ⟨its, rv, pl, hz⟩ := I1.tuple hq
    have hal : a < s1.heap.objs.size := by obtain ⟨o, ho, _⟩ := pl; exact Heap.lt_size ho
    refine call_enumerate_tuple (show s1.heap.IsTuple a its.toArray from pl) fun h' he hit hsz hk => wpAny_pyIter_enum he ?_
    refine ⟨s1.heap.objs.size + 1, [s1.heap.objs.size + 1, s1.heap.objs.size], _, _, H1, rfl, I1.kept (t' := s1.toks) hk, turn_enum a s1.heap.objs.size (s1.heap.objs.size + 1) (Nat.succ_ne_self _) (Nat.ne_of_lt hal) (Nat.ne_of_lt (Nat.lt_succ_of_lt hal)), ⟨⟨_, he⟩, hit⟩, fun b hb => ?_, q⟩
    have hb' : s1.heap.objs.size ≤ b := by
      rcases List.mem_cons.mp hb with rfl | hb
      · exact Nat.le_succ _
      · have : b = s1.heap.objs.size := by simpa using hb
        rw [this]
        exact Nat.le_refl _
    exact I1.fpOk hb' (I1.hok.fresh hb')
theorem itOk_enum {K : PySem.W.Frag} {a : Addr} {F1 : Addr → Prop} {H1 : Hp} {ts : List T} {vs : List V} (hr : SqT K H1 a vs) (q : RepL K F1 H1 ts vs) : ItOk K (Ite K a) F1 H1 (enum ts) where
  go := fun i F H t kp d e => by
    have hi := (List.getElem?_eq_some_iff.mp e).1
    simp only [enum, List.length_map, List.length_zipIdx] at hi
    obtain ⟨v, h1, _⟩ := q.get (List.getElem?_eq_getElem hi)
    exact ⟨vs, v, kp.tup _ _ hr, h1⟩
  yld := fun i F H t x H' kp d e y => by
    obtain ⟨p, v, hp, rfl, rfl, y⟩ := y
    have hi := (List.getElem?_eq_some_iff.mp e).1
    simp only [enum, List.length_map, List.length_zipIdx] at hi
    obtain ⟨v', h1, h2⟩ := (q.kp kp).get (List.getElem?_eq_getElem hi)
    have h3 := y vs (kp.tup _ _ hr)
    rw [h1] at h3
    cases h3
    have x1 := Ext.laid (o := .tup [.int i, v]) d hp
    refine ⟨F, x1, ?_⟩
    have et : t = .tuple [.int i, ts[i]] := by
      simp only [enum, List.getElem?_map, List.getElem?_zipIdx, List.getElem?_eq_getElem hi] at e
      simpa using e.symm
    subst et
    simp only [Rep]
    exact ⟨p, _, rfl, SqT.of upd_same, RepL.cons (by simp [Rep]) (RepL.cons (h2.ext x1) RepL.nil)⟩
  stop := fun i F H kp hl => ⟨vs, kp.tup _ _ hr, by
    simp only [enum, List.length_map, List.length_zipIdx] at hl
    rw [← q.length]
    exact hl⟩
/-- for a, b in enumerate(t) -/
theorem i_enum (hm : X.mg "enumerate" = none) (ha : PEv X a f) (hg : Gl X "enumerate" := by rfl) (hs : starEach [a] X.env = [(false, eval a X.env)] := by rfl) (hs2 : starEach [a] X.env = (false, eval a X.env) :: starEach [] X.env := by rfl) :
    PIt X (.Tuple es k p2) (.Call (.Name "enumerate" p) [a] [] pos) (itEnum (itTup f)) := PI_imp (pi_enum hg hm (pa_cons ha pa_nil hs2) hs) fun σ H R ⟨F₀, H₀, O, F, ε, ts, r, e, k⟩ => by
  simp only [itEnum, itTup, Option.map_eq_some_iff, Option.bind_eq_some_iff] at e
  obtain ⟨us, ⟨t, et, e⟩, rfl⟩ := e
  split at e
  · cases e
    refine ⟨F₀, H₀, O, F, ε, _, r, et, fun v F' H' x q => ?_⟩
    simp only [Rep] at q
    obtain ⟨a, vs, rfl, hs, hr⟩ := q
    exact ⟨a, vs, rfl, hs, k _ F' H' x (itOk_enum hs hr)⟩
  · cases e
end
end D
end
section
set_option linter.all false
set_option Elab.async false
set_option maxRecDepth 100000
set_option autoImplicit false
namespace D
open PySem PySem.Spec PyProof.Rows L2

/-- a def that may be called -/
structure Cl (P : Program) (w : World) (K : PySem.W.Frag) (mg : Str → Option Value) (base : Heap) (x : Str) (k n : Nat) (d : List T → Option T) : Prop where
  ex : ∃ fa fd ps, FnOk P w K mg base CX0 k fa fd ps (spT K n d) ∧ mg x = some (.ref fa) ∧ PySem.W.keepIn K (.ref fa) = true ∧ Binds K fd ps []
section
variable {P : Program} {w : World} {K : PySem.W.Frag} {mg : Str → Option Value} {base : Heap} {x : Str} {k n : Nat} {d : List T → Option T}
theorem Cl.mono {j : Nat} (c : Cl P w K mg base x j n d) (h : j ≤ k) : Cl P w K mg base x k n d := by
  obtain ⟨fa, fd, ps, F, r⟩ := c.ex
  exact ⟨fa, fd, ps, F.mono h, r⟩
theorem Cl.mk' {fa : Addr} {fd : FuncData} {ps : List Str} (F : FnOk P w K mg base CX0 k fa fd ps (spT K n d)) (m : mg x = some (.ref fa)) (kp : PySem.W.keepIn K (.ref fa) = true) (b : Binds K fd ps []) : Cl P w K mg base x k n d := ⟨fa, fd, ps, F, m, kp, b⟩
end
section
variable {X : Cx} {k n : Nat} {d : List T → Option T} {x : Str} {p pos : Pos} {e : Expr} {es : List Expr} {fs : List Fe}
theorem q_callC (C : Cl X.prog X.w X.K X.mg X.base x k n d) (hr : Room k X.A) (ha : PAv X (e :: es) fs) (hg : Gl X x := by rfl) (hn : fs.length = n := by rfl) (hdb : (x == ("__debug__" : Str)) = false := by decide)
    (he : starEach (e :: es) X.env = (false, eval e X.env) :: starEach es X.env := by rfl) (hpl : (backTo pos (starEach es X.env)).any (·.1) = false := by rfl) : PEv X (.Call (.Name x p) (e :: es) [] pos) (opN d fs) := by
  obtain ⟨fa, fd, ps, F, m, kp, b⟩ := C.ex
  exact q_call F hr hg m kp b ha hn hdb he hpl
theorem q_gI {i : Int} {t : Tok} (hm : X.mg x = some (.int i t)) (hg : Gl X x := by rfl) (hd : (x == ("__debug__" : Str)) = false := by decide) : PEv X (.Name x pos) (cst (.int i)) := q_cst (v := .int i) (pe_glob (v := .int i) hg hm ⟨t, rfl⟩ hd) fun _ _ => by simp [Rep]
/-- a comprehension's scope, looked at by program -/
def compB (scope sc : Scope) (N : List Str) (caps : List (Nat × Str)) : Bool :=
  decide (scope.kind = .function) && scope.names.all (fun y => (decide (y.2 ≠ .local) || decide (scope.names.lookup y.1 = some .local)) && decide (y.2 ≠ .cell) && (decide (y.2 ≠ .free) || decide (sc.names.lookup y.1 = some .cell) || decide (sc.names.lookup y.1 = some .free)))
    && caps.all (fun q => decide (N[q.1]? = some q.2) && decide (scope.names.lookup q.2 = some .free)) && decide ((caps.map (·.1)).Nodup)
theorem compOk {scope sc : Scope} {own : List Str} {caps : List (Nat × Str)} (N : List Str) (hsc : X.env.scope = sc) (hN : X.N = N) (hc : X.calm = true) (h : compB scope sc N caps = true) : CompOk X scope own caps := by
  simp only [compB, Bool.and_eq_true, List.all_eq_true, decide_eq_true_eq, Bool.or_eq_true] at h
  obtain ⟨⟨⟨h1, h2⟩, h3⟩, h4⟩ := h
  refine ⟨h1, fun y hy hl => ?_, fun y hy => (h2 y hy).1.2, fun y hy hf => ?_, fun q hq => by rw [hN]; exact h3 q hq, h4, hc⟩
  · rcases (h2 y hy).1.1 with z | z
    · exact absurd hl z
    · exact z
  · have hk : X.env.kindOf y.1 = sc.names.lookup y.1 := by rw [← hsc]; rfl
    rw [hk]
    rcases (h2 y hy).2 with (z | z) | z
    · exact absurd hf z
    · exact .inl z
    · exact .inr z
end
/-- a def of the text and its meaning -/
theorem cl_of {P : Program} {w : World} {K : PySem.W.Frag} {mg : Str → Option Value} {base : Heap} {x : Str} {st : Stmt} {f : Addr} {fd : FuncData} {N ps : List Str} {k : Nat} {b : Fs} (F : Fun K x x st f fd) (S : FnScope N ps (defScope st)) (bd : Binds K fd ps []) (m : mg x = some (.ref f))
    (hb : ∀ (cdv : Value) (A : Around) (outer : List Env) (s : Shared) (H : Hp) (E : XK), Room k (A.deeper (envOfC x (defScope st) s.heap.objs.size f cdv)) →
      PBt (cxOf CX0 P w K mg base N x (defScope st) f cdv A outer s H E).nox (defBody st) b) : Cl P w K mg base x (k + 1) ps.length (runF b N.length) := .mk' (fun_ok F S hb) m F.kp bd
end D
end
section
set_option linter.all false
set_option Elab.async false
set_option maxRecDepth 100000
set_option autoImplicit false
namespace D
open PySem PySem.Spec PyProof.Rows L2

/-! ### dicts of a frame's own -/
theorem kp_upd {K : PySem.W.Frag} {F : Addr → Prop} {H : Hp} {a : Addr} {o o' : HO} (hn : ¬ F a) (ha : H a = some o) (hk : (∃ xs, o = .lst xs) ∨ ∃ xs, o = .dK xs) : Kp K F H F (upd H a o') := by
  refine ⟨fun b xs q => ?_, fun b xs f q => ⟨f, ?_⟩⟩
  · rcases q with q | q
    · refine .inl ?_
      have nb : b ≠ a := by
        rintro rfl
        rcases q with q | ⟨_, q⟩
        · rw [ha] at q
          cases q
          rcases hk with ⟨_, z⟩ | ⟨_, z⟩ <;> cases z
        · rw [ha] at q
          cases q
          rcases hk with ⟨_, z⟩ | ⟨_, z⟩ <;> cases z
      rcases q with q | ⟨u, q⟩
      · exact .inl (by rw [upd_ne nb]; exact q)
      · exact .inr ⟨u, by rw [upd_ne nb]; exact q⟩
    · exact .inr q
  · have nb : b ≠ a := by
      rintro rfl
      exact hn f
    rcases q with q | ⟨u, q⟩
    · exact .inl (by rw [upd_ne nb]; exact q)
    · exact .inr ⟨u, by rw [upd_ne nb]; exact q⟩
section
variable {K : PySem.W.Frag} {F : Addr → Prop} {H : Hp}
theorem RepD.any {k : D.Key} : ∀ {kvs : List (D.Key × T)} {vs : List (D.Key × V)}, RepD K F H kvs vs → hasD kvs k = (valV vs k).isSome
  | [], vs, h => by
    have : vs = [] := h
    subst this
    rfl
  | p :: r, vs, h => by
    obtain ⟨v, w, rfl, q, z⟩ := h
    have ih := RepD.any (k := k) z
    simp only [hasD, List.any_cons, valV, List.find?_cons] at ih ⊢
    by_cases e : p.1 = k
    · simp [e]
    · simp [e, ih]
theorem RepD.get {k : D.Key} {t : T} : ∀ {kvs : List (D.Key × T)} {vs : List (D.Key × V)}, RepD K F H kvs vs → D.getD kvs k = some t → ∃ v, valV vs k = some v ∧ Rep K F H t v
  | [], vs, h, e => by cases e
  | p :: r, vs, h, e => by
    obtain ⟨v, w, rfl, q, z⟩ := h
    simp only [D.getD, valV, List.find?_cons] at e ⊢
    by_cases e' : p.1 = k
    · simp [e'] at e ⊢
      subst e
      exact q
    · simp [e'] at e ⊢
      have := RepD.get (k := k) (t := t) z (by simpa [D.getD] using e)
      simpa [valV] using this
theorem RepD.length : ∀ {kvs : List (D.Key × T)} {vs : List (D.Key × V)}, RepD K F H kvs vs → kvs.length = vs.length
  | [], vs, h => by
    have : vs = [] := h
    subst this
    rfl
  | p :: r, vs, h => by
    obtain ⟨v, w, rfl, q, z⟩ := h
    simp [RepD.length z]
theorem RepD.append : ∀ {kvs us : List (D.Key × T)} {vs ws : List (D.Key × V)}, RepD K F H kvs vs → RepD K F H us ws → RepD K F H (kvs ++ us) (vs ++ ws)
  | [], us, vs, ws, h, r => by
    have : vs = [] := h
    subst this
    exact r
  | p :: q, us, vs, ws, h, r => by
    obtain ⟨v, w, rfl, q', z⟩ := h
    exact ⟨v, w ++ ws, rfl, q', RepD.append z r⟩
theorem RepD.mapPut {k : D.Key} {t : T} {v : V} : ∀ {kvs : List (D.Key × T)} {vs : List (D.Key × V)}, RepD K F H kvs vs → Rep K F H t v → RepD K F H (kvs.map fun p => if p.1 = k then (k, t) else p) (vs.map fun kv => if kv.1 = k then (kv.1, v) else kv)
  | [], vs, h, q => by
    have : vs = [] := h
    subst this
    rfl
  | p :: r, vs, h, q => by
    obtain ⟨v', w, rfl, q', z⟩ := h
    simp only [List.map_cons]
    by_cases e : p.1 = k
    · rw [if_pos e, if_pos e]
      exact ⟨v, _, by rw [e], q, RepD.mapPut z q⟩
    · rw [if_neg e, if_neg e]
      exact ⟨v', _, rfl, q', RepD.mapPut z q⟩
theorem RepD.put {k : D.Key} {t : T} {v : V} {kvs : List (D.Key × T)} {vs : List (D.Key × V)} (h : RepD K F H kvs vs) (q : Rep K F H t v) : RepD K F H (putD kvs k t) (putK vs k v) := by
  have ha : (kvs.any fun p => decide (p.1 = k)) = (vs.any fun kv => decide (kv.1 = k)) := by
    clear q
    induction kvs generalizing vs with
    | nil =>
      have : vs = [] := h
      subst this
      rfl
    | cons p r ih =>
      obtain ⟨v, w, rfl, q', z⟩ := h
      simp only [List.any_cons, ih z]
  unfold putD putK
  rw [ha]
  split
  · exact RepD.mapPut h q
  · exact h.append ⟨v, [], rfl, q, rfl⟩
theorem key_rep {t : T} {k : D.Key} {v : V} {O : Addr → Prop} (e : keyOf t = some k) (r : RepR K O F H t v) : v = kV k := by
  unfold keyOf at e
  split at e
  · cases e
    exact r.int
  · cases e
    exact r.str
  · cases e
theorem dic_some {i : Nat} {ε : Ev} {kvs : List (D.Key × T)} (h : dic? i ε = some kvs) : ε[i]? = some (some (.dic kvs)) := by
  unfold dic? at h
  split at h
  · cases h
    assumption
  · cases h
end
section
variable {X : Cx} {a b e : Expr} {f g : Fe} {pos : Pos}
/-- the dict at a name, as it stands -/
theorem dic_val {F₀ O F : Addr → Prop} {H₀ H : Hp} {ε : Ev} {σ : L2.St} {i : Nat} {kvs : List (D.Key × T)} (r : RelE X.K F₀ H₀ O F H ε σ) (h : dic? i ε = some kvs) :
    ∃ p vs, σ[i]? = some (some (.ref p)) ∧ ¬ F p ∧ O p ∧ H p = some (.dK vs) ∧ RepD X.K F H kvs vs := by
  obtain ⟨v, h1, p, vs, rfl, n, o, hh, hr⟩ := r.val _ _ (dic_some h)
  exact ⟨p, vs, h1, n, o, hh, hr⟩
theorem dIn_imp {neg : Bool} {i : Nat} {R : TE} (hR : ∀ σ H Q, (∃ F₀ H₀ O F ε t k kvs, RelE X.K F₀ H₀ O F H ε σ ∧ f ε = some t ∧ keyOf t = some k ∧ dic? i ε = some kvs ∧ ∀ F' H', Ext F H F' H' → Q (.bl (if neg then !hasD kvs k else hasD kvs k)) H') → R σ H Q) :
    ∀ σ H Q, tV X.K (dIn neg f i) σ H Q → R σ H Q := fun σ H Q ⟨F₀, H₀, O, F, ε, t, r, e, k⟩ => by
  simp only [dIn, Option.bind_eq_some_iff, Option.map_eq_some_iff] at e
  obtain ⟨t', et, key, ek, kvs, ed, rfl⟩ := e
  exact hR σ H Q ⟨F₀, H₀, O, F, ε, t', key, kvs, r, et, ek, ed, fun F' H' x => k _ F' H' x (by simp [Rep])⟩
theorem dIn_base (i : Nat) : ∀ σ H (Q : VK), (∃ F₀ H₀ O F ε t k kvs, RelE X.K F₀ H₀ O F H ε σ ∧ f ε = some t ∧ keyOf t = some k ∧ dic? i ε = some kvs ∧ ∀ F' H', Ext F H F' H' → Q (.bl (if false then !hasD kvs k else hasD kvs k)) H') → tDIn (tR X.K f) (tVar i) σ H Q :=
  fun σ H Q ⟨F₀, H₀, O, F, ε, t, k, kvs, r, et, ek, ed, kk⟩ => ⟨F₀, H₀, O, F, ε, t, r, et, fun v F1 H1 x1 q1 => by
    obtain ⟨p, vs, h1, n, o, hh, hr⟩ := dic_val (r.ext x1) ed
    refine ⟨_, h1, p, valV vs k, rfl, ?_, ?_⟩
    · rw [key_rep ek q1]
      exact DGet.k hh
    · rw [← hr.any]
      exact kk F1 H1 x1⟩
theorem dInN_base (i : Nat) : ∀ σ H (Q : VK), (∃ F₀ H₀ O F ε t k kvs, RelE X.K F₀ H₀ O F H ε σ ∧ f ε = some t ∧ keyOf t = some k ∧ dic? i ε = some kvs ∧ ∀ F' H', Ext F H F' H' → Q (.bl (if true then !hasD kvs k else hasD kvs k)) H') → tDNotIn (tR X.K f) (tVar i) σ H Q :=
  fun σ H Q ⟨F₀, H₀, O, F, ε, t, k, kvs, r, et, ek, ed, kk⟩ => ⟨F₀, H₀, O, F, ε, t, r, et, fun v F1 H1 x1 q1 => by
    obtain ⟨p, vs, h1, n, o, hh, hr⟩ := dic_val (r.ext x1) ed
    refine ⟨_, h1, p, valV vs k, rfl, ?_, ?_⟩
    · rw [key_rep ek q1]
      exact DGet.k hh
    · rw [← hr.any]
      exact kk F1 H1 x1⟩
variable {x : Str} {px : Pos}
theorem q_dIn (i : Nat) (hu : X.A.units + 1 < cLine) (ha : PEr X a f) (hN : X.N[i]? = some x := by rfl) (hv : Vis X.env.scope x := by first | exact Or.inl rfl | exact Or.inr (Or.inl rfl) | exact Or.inr (Or.inr rfl)) (hd : (x == ("__debug__" : Str)) = false := by decide)
    (hcd : (x == ("__classdict__" : Str)) = false := by decide) (h1 : behindInMarks .In (.Name x px) = false := by rfl) : PEv X (.Compare a [.In] [.Name x px] pos) (dIn false f i) := PE_imp (pe_cmp (pc_din hu ha (pv i hN hv hd hcd)) h1) (dIn_imp (dIn_base i))
theorem q_dInN (i : Nat) (hu : X.A.units + 1 < cLine) (ha : PEr X a f) (hN : X.N[i]? = some x := by rfl) (hv : Vis X.env.scope x := by first | exact Or.inl rfl | exact Or.inr (Or.inl rfl) | exact Or.inr (Or.inr rfl)) (hd : (x == ("__debug__" : Str)) = false := by decide)
    (hcd : (x == ("__classdict__" : Str)) = false := by decide) (h1 : behindInMarks .NotIn (.Name x px) = false := by rfl) : PEv X (.Compare a [.NotIn] [.Name x px] pos) (dIn true f i) := PE_imp (pe_cmp (pc_dnotin hu ha (pv i hN hv hd hcd)) h1) (dIn_imp (dInN_base i))
theorem tT_of {R : TE} {h : Fe} (k : ∀ σ H Q, tV X.K h σ H Q → R σ H Q) : ∀ σ H Q, tT X.K (tstB h) σ H Q → L2.tB R σ H Q := fun σ H Q ⟨F₀, H₀, O, F, ε, b, r, e, kk⟩ => by
  simp only [tstB, Option.bind_eq_some_iff] at e
  obtain ⟨t, et, e⟩ := e
  split at e
  · cases e
    refine k σ H _ ⟨F₀, H₀, O, F, ε, _, r, et, fun v F' H' x q => ?_⟩
    simp only [Rep] at q
    exact ⟨_, q, kk F' H' x⟩
  · cases e
theorem t_dIn (i : Nat) (hu : X.A.units + 1 < cLine) (ha : PEr X a f) (hN : X.N[i]? = some x := by rfl) (hv : Vis X.env.scope x := by first | exact Or.inl rfl | exact Or.inr (Or.inl rfl) | exact Or.inr (Or.inr rfl)) (hd : (x == ("__debug__" : Str)) = false := by decide)
    (hcd : (x == ("__classdict__" : Str)) = false := by decide) (h1 : behindInMarks .In (.Name x px) = false := by rfl) : PTt X (.Compare a [.In] [.Name x px] pos) (tstB (dIn false f i)) := PT_imp (pt_cmp (pc_din hu ha (pv i hN hv hd hcd)) h1) (tT_of (dIn_imp (dIn_base i)))
theorem t_dInN (i : Nat) (hu : X.A.units + 1 < cLine) (ha : PEr X a f) (hN : X.N[i]? = some x := by rfl) (hv : Vis X.env.scope x := by first | exact Or.inl rfl | exact Or.inr (Or.inl rfl) | exact Or.inr (Or.inr rfl)) (hd : (x == ("__debug__" : Str)) = false := by decide)
    (hcd : (x == ("__classdict__" : Str)) = false := by decide) (h1 : behindInMarks .NotIn (.Name x px) = false := by rfl) : PTt X (.Compare a [.NotIn] [.Name x px] pos) (tstB (dIn true f i)) := PT_imp (pt_cmp (pc_dnotin hu ha (pv i hN hv hd hcd)) h1) (tT_of (dIn_imp (dInN_base i)))
theorem q_dGet (i : Nat) (hu : X.A.units + 1 < cLine) (ha : PEr X a f) (hN : X.N[i]? = some x := by rfl) (hv : Vis X.env.scope x := by first | exact Or.inl rfl | exact Or.inr (Or.inl rfl) | exact Or.inr (Or.inr rfl)) (hd : (x == ("__debug__" : Str)) = false := by decide)
    (hcd : (x == ("__classdict__" : Str)) = false := by decide) (hs : NoSl a := by intro _ _; rfl) : PEv X (.Subscript (.Name x px) a pos) (dGet i f) := PE_imp (pe_dget hu (pv i hN hv hd hcd) ha hs) fun σ H Q ⟨F₀, H₀, O, F, ε, t, r, e, k⟩ => by
  simp only [dGet, Option.bind_eq_some_iff] at e
  obtain ⟨t', et, key, ek, kvs, ed, eg⟩ := e
  obtain ⟨p, vs, h1, n, o, hh, hr⟩ := dic_val r ed
  refine ⟨_, h1, F₀, H₀, O, F, ε, t', r, et, fun v F1 H1 x1 q1 => ?_⟩
  obtain ⟨p', vs', h1', n', o', hh', hr'⟩ := dic_val (r.ext x1) ed
  rw [h1] at h1'
  cases h1'
  obtain ⟨w, hw, rw'⟩ := hr'.get eg
  refine ⟨p, w, rfl, ?_, k w F1 H1 x1 rw'⟩
  rw [key_rep ek q1, ← hw]
  exact DGet.k hh'
theorem s_dPut (i : Nat) (hu : X.A.units + 1 < cLine) {spos : Pos} (ha : PEr X a f) (he : PEv X e g) (hN : X.N[i]? = some x := by rfl) (hv : Vis X.env.scope x := by first | exact Or.inl rfl | exact Or.inr (Or.inl rfl) | exact Or.inr (Or.inr rfl)) (hd : (x == ("__debug__" : Str)) = false := by decide)
    (hcd : (x == ("__classdict__" : Str)) = false := by decide) (hs : swapsWith e (some (.Subscript (.Name x px) a spos)) pos.line X.env = pure false := by rfl) :
    PSt X (.Assign [.Subscript (.Name x px) a spos] e pos) (dPut i f g) := PS_imp (ps_dput hu (pv i hN hv hd hcd) ha he hs) fun D σ H ⟨F₀, H₀, O, F, ε, o, r, e, k⟩ => by
  simp only [dPut, Option.bind_eq_some_iff] at e
  obtain ⟨v, ev, t, et, key, ek, kvs, ed, e⟩ := e
  split at e
  next hz =>
    cases e
    refine ⟨F₀, H₀, O, F, ε, v, r, ev, fun vv F1 H1 x1 q1 => ?_⟩
    obtain ⟨p, vs, h1, n, oo, hh, hr⟩ := dic_val (r.ext x1) ed
    refine ⟨_, h1, F₀, H₀, O, F1, ε, t, r.ext x1, et, fun vt F2 H2 x2 q2 => ?_⟩
    have r2 := (r.ext x1).ext x2
    obtain ⟨p', vs', h1', n', o', hh', hr'⟩ := dic_val r2 ed
    rw [h1] at h1'
    cases h1'
    obtain ⟨kp, r3⟩ := r2.mut (s' := .dic (putD kvs key v)) (o' := .dK (putK vs' key vv)) (dic_some ed) rfl h1 n' o' hh' (.inr ⟨_, rfl⟩) fun kp => ⟨p, _, rfl, n', o', upd_same, RepD.put (RepD.kp kp hr') ((q1.ext x2).kp kp)⟩
    refine ⟨p, _, rfl, ?_, k σ F2 _ ((x1.trans x2).kp.trans kp) r3⟩
    rw [key_rep ek q2]
    exact DPut.k hh' (by rw [sizeL, ← hr'.length]; exact hz)
  next => cases e
theorem s_dNew (i : Nat) {kx vx : Expr} {dpos : Pos} (hN : X.N.Nodup) (hk : PEv X kx f) (he : PEv X vx g) (hi : X.N[i]? = some x := by rfl) (hx : Loc X.env.scope x := by first | exact Or.inl rfl | exact Or.inr rfl)
    (hs : swapsWith (.Dict [some kx] [vx] dpos) (some (.Name x px)) pos.line X.env = pure false := by rfl) (hf : X.fn x = true ∨ X.env.scope.names.lookup x = some .local := by first | exact .inl rfl | exact .inr rfl) :
    PSt X (.Assign [.Name x px] (.Dict [some kx] [vx] dpos) pos) (dNew i f g) := PS_imp (ps_set hN hi hx (pe_disp (pps_cons hk he pps_nil) rfl rfl (by simp) (by simp)) hs hf) fun D σ H ⟨F₀, H₀, O, F, ε, o, r, e, k⟩ => by
  simp only [dNew, Option.bind_eq_some_iff, Option.map_eq_some_iff] at e
  obtain ⟨t, et, key, ek, v, ev, rfl⟩ := e
  intro p hp
  have x0 := Ext.laid (o := .dK []) r.dom hp
  refine ⟨F₀, H₀, O, F, ε, t, r.ext x0, et, fun vk F1 H1 x1 q1 => ⟨F₀, H₀, O, F1, ε, v, (r.ext x0).ext x1, ev, fun vv F2 H2 x2 q2 => ?_⟩⟩
  have x02 := (x0.trans x1).trans x2
  have hp2 : H2 p = some (.dK []) := (x1.trans x2).same _ _ upd_same
  have nf : ¬ F2 p := fun z => by
    rcases (x1.trans x2).new p z with q | q
    · obtain ⟨o, e⟩ := r.dom p q
      rw [hp] at e
      cases e
    · rw [upd_same] at q
      cases q
  refine ⟨hp2, [(key, vv)], ?_, by simp, ?_⟩
  · simp [key_rep ek (.inl q1 : RepR X.K O F1 H1 t vk)]
  · have kp : Kp X.K F2 H2 F2 (upd H2 p (.dK (mergeK [] [(key, vv)]))) := kp_upd nf hp2 (.inr ⟨_, rfl⟩)
    have x3 : Ext F H F2 (upd H2 p (.dK (mergeK [] [(key, vv)]))) := by
      refine ⟨fun b o e => ?_, x02.sub, x02.new, fun b z => ?_⟩
      · rw [upd_ne (ne_of_none e hp)]
        exact x02.same b o e
      · have nb : b ≠ p := by
          rintro rfl
          exact nf z
        rw [upd_ne nb]
        exact x02.dom b z
    refine k _ F2 _ x3.kp ((r.ext x3).setOwn i ⟨p, _, rfl, nf, r.fr p hp, upd_same, ⟨vv, [], rfl, q2.kp kp, rfl⟩⟩ fun j u ej oj hj => ?_)
    obtain ⟨w, h1, h2⟩ := r.val j u ej
    rw [hj] at h1
    cases h1
    cases u with
    | imm t => cases oj
    | own ts =>
      obtain ⟨a', vs', e1, _, _, eh, _⟩ := h2
      cases e1
      rw [hp] at eh
      cases eh
    | dic ts =>
      obtain ⟨a', vs', e1, _, _, eh, _⟩ := h2
      cases e1
      rw [hp] at eh
      cases eh
end
end D
end
section
set_option linter.all false
set_option Elab.async false
set_option maxRecDepth 100000
set_option autoImplicit false
namespace D
open PySem

/-! ### a set's table: its places rise, whatever is laid -/
def Rs (xs : Array Nat) : Prop := xs.toList.Pairwise (· < ·)
def Cuts (xs : Array Nat) (j p : Nat) : Prop := p ≤ xs.size ∧ (∀ i, i < p → ∀ y, xs.toList[i]? = some y → y < j) ∧ ∀ i, p ≤ i → ∀ y, xs.toList[i]? = some y → j ≤ y
theorem rs_mono {xs : Array Nat} (h : Rs xs) {i k a b : Nat} (hik : i ≤ k) (ha : xs.toList[i]? = some a) (hb : xs.toList[k]? = some b) : a ≤ b := by
  obtain ⟨hi, rfl⟩ := List.getElem?_eq_some_iff.mp ha
  obtain ⟨hk, rfl⟩ := List.getElem?_eq_some_iff.mp hb
  rcases Nat.lt_or_eq_of_le hik with q | q
  · exact Nat.le_of_lt (List.pairwise_iff_getElem.mp h i k hi hk q)
  · subst q
    exact Nat.le_refl _
theorem below_go {xs : Array Nat} (j : Nat) (h : Rs xs) : ∀ fuel lo hi, hi - lo ≤ fuel → lo ≤ hi → hi ≤ xs.size → (∀ i, i < lo → ∀ y, xs.toList[i]? = some y → y < j) → (∀ i, hi ≤ i → ∀ y, xs.toList[i]? = some y → j ≤ y) →
    Cuts xs j (SetTable.below.go xs j fuel lo hi)
  | 0, lo, hi, h1, h2, h3, ha, hb => by
    have : lo = hi := by omega
    subst this
    exact ⟨h3, ha, hb⟩
  | fuel + 1, lo, hi, h1, h2, h3, ha, hb => by
    unfold SetTable.below.go
    by_cases c : lo < hi
    · rw [if_pos c]
      have hm : (lo + hi) / 2 < xs.size := by omega
      have hg : xs.toList[(lo + hi) / 2]? = some (xs.getD ((lo + hi) / 2) j) := by
        rw [List.getElem?_eq_getElem (by simpa using hm)]
        simp [Array.getD, hm]
      show Cuts xs j (if xs.getD ((lo + hi) / 2) j < j then SetTable.below.go xs j fuel ((lo + hi) / 2 + 1) hi else SetTable.below.go xs j fuel lo ((lo + hi) / 2))
      by_cases q : xs.getD ((lo + hi) / 2) j < j
      · rw [if_pos q]
        exact below_go j h fuel _ hi (by omega) (by omega) h3 (fun i hi' y hy => Nat.lt_of_le_of_lt (rs_mono h (Nat.le_of_lt_succ hi') hy hg) q) hb
      · rw [if_neg q]
        exact below_go j h fuel lo _ (by omega) (by omega) (by omega) ha fun i hi' y hy => Nat.le_trans (Nat.le_of_not_lt q) (rs_mono h hi' hg hy)
    · rw [if_neg c]
      have : lo = hi := by omega
      subst this
      exact ⟨h3, ha, hb⟩
theorem below_cuts {xs : Array Nat} (j : Nat) (h : Rs xs) : Cuts xs j (SetTable.below xs j) :=
  below_go j h xs.size 0 xs.size (by omega) (Nat.zero_le _) (Nat.le_refl _) (fun i z => absurd z (Nat.not_lt_zero i)) fun i z y e => by
    rw [List.getElem?_eq_none (by simpa using z)] at e
    cases e
theorem rs_insert {xs : Array Nat} {j : Nat} (h : Rs xs) (n : xs[SetTable.below xs j]? ≠ some j) : Rs (SetTable.insertAt xs (SetTable.below xs j) j) := by
  obtain ⟨h1, h2, h3⟩ := below_cuts j h
  unfold Rs
  rw [SetTable.toList_insertAt]
  generalize SetTable.below xs j = p at *
  refine List.pairwise_append.mpr ⟨h.sublist (List.take_sublist _ _), List.pairwise_cons.mpr ⟨fun y hy => ?_, h.sublist (List.drop_sublist _ _)⟩, fun a ha b hb => ?_⟩
  · obtain ⟨i, hi⟩ := List.getElem?_of_mem hy
    rw [List.getElem?_drop] at hi
    have hle : j ≤ y := h3 _ (Nat.le_add_right p i) y hi
    refine Nat.lt_of_le_of_ne hle fun e => n ?_
    subst e
    rw [← Array.getElem?_toList]
    have h0 : p < xs.toList.length := by
      have := (List.getElem?_eq_some_iff.mp hi).1
      omega
    have hp : xs.toList[p]? = some xs.toList[p] := List.getElem?_eq_getElem h0
    have q1 := h3 p (Nat.le_refl _) _ hp
    have q2 := rs_mono h (Nat.le_add_right p i) hp hi
    rw [hp, Nat.le_antisymm q2 q1]
  · obtain ⟨i, hi⟩ := List.getElem?_of_mem ha
    have hlt : i < p := by
      have := (List.getElem?_eq_some_iff.mp hi).1
      rw [List.length_take] at this
      omega
    rw [List.getElem?_take_of_lt hlt] at hi
    have haj := h2 i hlt a hi
    rcases List.mem_cons.mp hb with e | hb
    · omega
    · obtain ⟨k, hk⟩ := List.getElem?_of_mem hb
      rw [List.getElem?_drop] at hk
      have := h3 _ (Nat.le_add_right p k) b hk
      omega
theorem slot_free {t : SetTable} {j : Nat} (h : ∀ i, t.slot j ≠ .live i) : t.place[SetTable.below t.place j]? ≠ some j := fun e => by
  unfold SetTable.slot at h
  dsimp only at h
  rw [e] at h
  simp at h
theorem probe_go {t : SetTable} {f : Nat → Int} {h : Int} : ∀ (n : Nat) (p : SetTable.Probe), (∀ d, p.dummy = some d → t.slot d = .dummy) → ∀ j dm, SetTable.probe.go t f h n p = some (.empty j dm) → t.slot j = .empty ∧ ∀ d, dm = some d → t.slot d = .dummy
  | 0, p, hp, j, dm, e => by cases e
  | n + 1, p, hp, j, dm, e => by
    unfold SetTable.probe.go at e
    have adv : ∀ q : SetTable.Probe, (t.advance q).dummy = q.dummy := fun q => by
      unfold SetTable.advance
      split <;> rfl
    split at e
    next q =>
      cases e
      exact ⟨q, hp⟩
    next q => exact probe_go n _ (fun d z => by rw [adv] at z; cases z; exact q) j dm e
    next i q =>
      split at e
      · cases e
      · exact probe_go n _ (fun d z => by rw [adv] at z; exact hp d z) j dm e
theorem freeSlot_ok {t : SetTable} {h : Int} {j : Nat} {b : Bool} (e : t.freeSlot h = some (j, b)) : t.place[SetTable.below t.place j]? ≠ some j := by
  unfold SetTable.freeSlot at e
  split at e
  next j' dm q =>
    cases e
    obtain ⟨h1, h2⟩ := probe_go _ _ (fun d z => by cases z) _ _ q
    cases dm with
    | none => exact slot_free fun i z => by rw [Option.getD_none, h1] at z; cases z
    | some d => exact slot_free fun i z => by rw [Option.getD_some, h2 d rfl] at z; cases z
  next => cases e
theorem rs_range (n : Nat) : Rs (Array.range n) := by
  unfold Rs
  simp only [Array.toList_range]
  exact List.pairwise_lt_range
theorem standIn_rs (t : SetTable) (n : Nat) : Rs (t.standIn n).place ∧ (t.standIn n).led = t.led := ⟨rs_range n, rfl⟩
theorem orStandIn_rs {t : SetTable} (h : Rs t.place) (n : Nat) : Rs (t.orStandIn n).place ∧ (t.orStandIn n).led = t.led := by
  unfold SetTable.orStandIn
  split
  · exact ⟨h, rfl⟩
  · exact standIn_rs t n
theorem layNew_rs {t : SetTable} (h : Rs t.place) (es : Array (Int × Value)) (k : Int) (x : Value) : Rs (layNew t es k x).2.1.place ∧ (layNew t es k x).2.1.led = t.led := by
  unfold layNew
  split
  next slot wd e =>
    have := orStandIn_rs (t := (t.put slot).1) (rs_insert h (freeSlot_ok e)) (SetTable.insertAt es (t.put slot).2 (k, x)).size
    exact this
  next => exact standIn_rs t _
theorem relayAll_rs {t : SetTable} (es : Array (Int × Value)) (n : Nat) : Rs (relayAll t es n).2.1.place ∧ (relayAll t es n).2.1.led = t.led := by
  unfold relayAll
  split
  next t' order e =>
    dsimp only
    split
    · unfold SetTable.relaid SetTable.laid at e
      simp only [Option.bind_eq_bind, Option.bind_eq_some_iff, pure, Option.some.injEq, Prod.mk.injEq] at e
      obtain ⟨owner, _, rfl, _⟩ := e
      refine ⟨?_, rfl⟩
      unfold Rs
      dsimp only
      rw [List.map_filterMap]
      refine List.Pairwise.sublist (l₂ := List.range (SetTable.sizeAbove n - 1 + 1)) ?_ List.pairwise_lt_range
      generalize List.range (SetTable.sizeAbove n - 1 + 1) = l
      induction l with
      | nil => exact .slnil
      | cons a r ih =>
        rw [List.filterMap_cons]
        cases q : owner.getD a none with
        | none => simpa [q] using ih.cons a
        | some z => simpa [q] using ih.cons₂ a
    · exact standIn_rs t _
  next => exact standIn_rs t _
end D
end
section
set_option linter.all false
set_option Elab.async false
set_option maxRecDepth 100000
set_option autoImplicit false
namespace D
open PySem PySem.Spec PyProof.Rows L2

theorem pd_perm {α β : Type} {R : α → β → Prop} {l l' : List α} (p : l'.Perm l) : ∀ {ks : List β}, Paired R l ks → ∃ ks', Paired R l' ks' ∧ ks'.Perm ks := by
  have key : ∀ {l l' : List α}, l.Perm l' → ∀ {ks : List β}, Paired R l ks → ∃ ks', Paired R l' ks' ∧ ks'.Perm ks := by
    intro l l' p
    induction p with
    | nil => exact fun h => ⟨_, h, .rfl⟩
    | cons x _ ih =>
      intro ks h
      cases h with
      | cons a b =>
        obtain ⟨ks', h1, h2⟩ := ih b
        exact ⟨_, .cons a h1, h2.cons _⟩
    | swap x y l =>
      intro ks h
      cases h with
      | cons a b =>
        cases b with
        | cons c d => exact ⟨_, .cons c (.cons a d), .swap _ _ _⟩
    | trans _ _ i1 i2 =>
      intro ks h
      obtain ⟨k1, h1, p1⟩ := i1 h
      obtain ⟨k2, h2, p2⟩ := i2 h1
      exact ⟨k2, h2, p2.trans p1⟩
  exact fun {ks} h => key p.symm h
theorem pd_append {α β : Type} {R : α → β → Prop} : ∀ {l l' : List α} {ks ks' : List β}, Paired R l ks → Paired R l' ks' → Paired R (l ++ l') (ks ++ ks')
  | _, _, _, _, .nil, h => h
  | _, _, _, _, .cons a b, h => .cons a (pd_append b h)
theorem pd_len {α β : Type} {R : α → β → Prop} : ∀ {l : List α} {ks : List β}, Paired R l ks → l.length = ks.length
  | _, _, .nil => rfl
  | _, _, .cons a b => by simp [pd_len b]
theorem pd_get {α β : Type} {R : α → β → Prop} : ∀ {l : List α} {ks : List β}, Paired R l ks → ∀ {i : Nat} {x : α}, l[i]? = some x → ∃ k, ks[i]? = some k ∧ R x k
  | _, _, .nil, i, x, e => by simp at e
  | _, _, .cons a b, 0, x, e => by
    simp at e
    subst e
    exact ⟨_, rfl, a⟩
  | _, _, .cons a b, i + 1, x, e => by
    simp only [List.getElem?_cons_succ] at e ⊢
    exact pd_get b e

/-- whether a run orders its sets by a text -/
def byTxt (w : World) : Bool := w.params.followText "set-order"
section
variable {prog : Program} {w : World} {K : Type} [DecidableEq K] (knd : PySem.KeyKind prog w K)
def IsK (e : Int × Value) (k : K) : Prop := knd.is k e.2 = true
/-- a set, with its keys in some order -/
def SetK (h : Heap) (a : Addr) (ks : List K) : Prop := ∃ (es : Array (Int × Value)) (ep : Nat) (t : SetTable) (ks' : List K),
  h.get? a = some { cls := .type "set", dict := none, data := .set es ep t, slots := #[] } ∧ ElemsOf knd es.toList ∧ Paired (IsK knd) es.toList ks' ∧ ks'.Perm ks ∧ es.size < scanBound ∧ t.fits es.size = true ∧ t.led = !byTxt w ∧ Rs t.place
def addK (ks : List K) (k : K) : List K := if k ∈ ks then ks else ks ++ [k]
variable {knd} {A : Around} {E : Value → Shared → Prop} {s : Shared}
theorem SetK.at' {h h' : Heap} {a : Addr} {ks : List K} (x : SetK knd h a ks) (k : ∀ o, h.get? a = some o → h'.get? a = some o) : SetK knd h' a ks := by
  obtain ⟨es, ep, t, ks', h1, h2⟩ := x
  exact ⟨es, ep, t, ks', k _ h1, h2⟩
theorem isK_mem {l : List (Int × Value)} {ks : List K} (p : Paired (IsK knd) l ks) (k : K) : (∃ e ∈ l, knd.is k e.2 = true) ↔ k ∈ ks := by
  induction p with
  | nil => simp
  | @cons e k' l ks a b ih =>
    simp only [List.mem_cons, exists_eq_or_imp, ih]
    have : knd.is k e.2 = true ↔ k = k' := by
      rw [KeyKind.is_eq_decide a k]
      simp
    rw [this]
theorem put_at {h : Heap} {a : Addr} {es es' : Array (Int × Value)} {ep : Nat} {t t' : SetTable} (ho : h.get? a = some { cls := .type "set", dict := none, data := .set es ep t, slots := #[] }) :
    (h.update a (Obj.putSet es' t')).get? a = some { cls := .type "set", dict := none, data := .set es' (ep + 1) t', slots := #[] } := by
  have := Heap.get?_update_self (Obj.putSet es' t') ho (by rw [putSet_of es' t' rfl]; rfl)
  rw [putSet_of es' t' rfl] at this
  exact this
theorem setAdd_k {a : Addr} {ks : List K} {k : K} {x : Value} {Q : Bool → Shared → Prop} (hkey : knd.is k x = true) (hsc : x.scannable = true) (hS : SetK knd s.heap a ks) (hroom : ks.length + 1 < scanBound)
    (h : ∀ h' b, Heap.SameBut a s.heap h' → SetK knd h' a (addK ks k) → Q b { s with heap := h' }) : wpAny (model prog w) A (setAddHashed a x (knd.hash k)) Q E s := by
  obtain ⟨es, ep, t, ks', ho, hel, hpd, hpm, hb, hf, hled, hrs⟩ := id hS
  have hlen : es.size = ks.length := by rw [← hpm.length_eq, ← pd_len hpd, Array.length_toList]
  unfold setAddHashed setAddHashedIn
  refine wpAny_holding (wpAny_bind (wpAny_setState_of ho rfl hf ?_))
  dsimp only
  rw [byScan_of hsc hb hel]
  simp only [↓reduceIte]
  unfold setAddByScan
  refine wpAny_bind ?_
  refine wpAny_bind (wpAny_rule ?_)
  refine wpAny_bind (wpAny_setScan_of hkey ho rfl hf hel ?_)
  cases hr : List.findIdx? (fun e => knd.is k e.2) es.toList with
  | some j =>
    dsimp only
    obtain ⟨hj, hpj, _⟩ := List.findIdx?_eq_some_iff_getElem.mp hr
    have hk : k ∈ ks := hpm.mem_iff.mp ((isK_mem hpd k).mp ⟨_, List.getElem_mem hj, hpj⟩)
    refine wpAny_pure (wpAny_pure ?_)
    refine h s.heap _ (Heap.SameBut.refl a s.heap) ?_
    rw [addK, if_pos hk]
    exact hS
  | none =>
    dsimp only
    have hk : k ∉ ks := fun z => by
      obtain ⟨e, he, q⟩ := (isK_mem hpd k).mpr (hpm.mem_iff.mpr z)
      have := List.findIdx?_eq_none_iff.mp hr e he
      rw [q] at this
      cases this
    have e0 : addK ks k = ks ++ [k] := if_neg hk
    rw [e0] at h
    have hgw : ∀ (b : Bool) {s₁ : Shared} {Q' : Unit → Shared → Prop}, Q' () s₁ → wpAny (model prog w) A (match b with | true => rule "set.scan.the-table-gave-way" | false => pure ()) Q' E s₁ :=
      fun b s₁ Q' hq => by cases b <;> first | exact wpAny_pure hq | exact wpAny_rule hq
    have l1 := layNew_perm t es (knd.hash k) x
    have l2 := layNew_fits t es (knd.hash k) x
    have l3 := layNew_rs hrs es (knd.hash k) x
    generalize hL : layNew t es (knd.hash k) x = L at l1 l2 l3 ⊢
    obtain ⟨es1, t1, wd, gave⟩ := L
    dsimp only at l1 l2 l3 ⊢
    rw [Array.toList_push] at l1
    have hel1 : ElemsOf knd es1.toList := (hel.push hkey hsc).perm l1
    obtain ⟨ks1, hp1, hm1⟩ := pd_perm l1 (pd_append hpd (.cons (show IsK knd (knd.hash k, x) k from hkey) .nil))
    have hm2 : ks1.Perm (ks ++ [k]) := hm1.trans (hpm.append_right _)
    have hz1 : es1.size < scanBound := by
      rw [← Array.length_toList, l1.length_eq, List.length_append, Array.length_toList, hlen]
      simpa using hroom
    refine wpAny_bind (hgw _ ?_)
    have tail : ∀ (t2 : SetTable) (g : Bool → Sem Unit), (∀ (b : Bool) (s₁ : Shared) (Q' : Unit → Shared → Prop), Q' () s₁ → wpAny (model prog w) A (g b) Q' E s₁) → t2.fits es1.size = true → t2.led = !byTxt w → Rs t2.place →
        wpAny (model prog w) A (do
          storeSet a es1 t2
          if (!wd && t2.tooFull) = true then do
              g (relayAll t2 es1 (SetTable.grown es1.size)).2.2
              storeSet a (relayAll t2 es1 (SetTable.grown es1.size)).1 (relayAll t2 es1 (SetTable.grown es1.size)).2.1
              pure (some true)
            else pure (some true)) (fun r s' => wpAny (model prog w) A (match r with | some added => pure added | none => setAddHashedIn a x (knd.hash k) 99999) Q E s') E s := by
      intro t2 g hg f2 d2 r2
      refine wpAny_bind (wpAny_storeSet_of ho rfl ?_ (fits_of_scanBound hz1))
      have ho1 := put_at (es' := es1) (t' := t2) ho
      have sb1 := Heap.SameBut.update s.heap a (Obj.putSet es1 t2)
      split
      · have r1 := relayAll_perm t2 es1 (SetTable.grown es1.size)
        have rf := relayAll_fits t2 es1 (SetTable.grown es1.size)
        have rr := relayAll_rs (t := t2) es1 (SetTable.grown es1.size)
        generalize relayAll t2 es1 (SetTable.grown es1.size) = Rl at r1 rf rr ⊢
        obtain ⟨es2, t3, g2⟩ := Rl
        dsimp only at r1 rf rr ⊢
        obtain ⟨ks2, hp2, hm3⟩ := pd_perm r1 hp1
        have hz2 : es2.size < scanBound := by
          rw [← Array.length_toList, r1.length_eq, Array.length_toList]
          exact hz1
        refine wpAny_bind (hg _ _ _ ?_)
        refine wpAny_bind (wpAny_storeSet_of ho1 rfl ?_ (fits_of_scanBound hz2))
        exact wpAny_pure (wpAny_pure (h _ _ (sb1.trans (Heap.SameBut.update _ a _)) ⟨es2, _, t3, ks2, put_at ho1, hel1.perm r1, hp2, hm3.trans hm2, hz2, rf, rr.2.trans d2, rr.1⟩))
      · exact wpAny_pure (wpAny_pure (h _ _ sb1 ⟨es1, _, t2, ks1, ho1, hel1, hp1, hm2, hz1, f2, d2, r2⟩))
    split
    · refine wpAny_bind ?_
      rw [hashByValue_scannable 8 hsc]
      refine wpAny_pure ?_
      refine tail _ _ ?_ ?_ ?_ ?_
      · intro b s₁ Q' hq
        cases b <;> first | exact wpAny_pure hq | exact wpAny_rule hq
      · split
        · exact l2
        · exact SetTable.fits_plain_off l2
      · split
        · exact l3.2.trans hled
        · exact l3.2.trans hled
      · split
        · exact l3.1
        · exact l3.1
    · refine wpAny_bind (wpAny_pure ?_)
      simp only [↓reduceIte]
      refine tail _ _ ?_ l2 (l3.2.trans hled) l3.1
      intro b s₁ Q' hq
      cases b <;> first | exact wpAny_pure hq | exact wpAny_rule hq

theorem addK_len (ks : List K) (k : K) : (addK ks k).length ≤ ks.length + 1 := by
  unfold addK
  split <;> simp
def addAll (ks : List K) : List K := ks.foldl addK []
theorem foldl_addK_len : ∀ (ks acc : List K), (ks.foldl addK acc).length ≤ acc.length + ks.length
  | [], acc => by simp
  | k :: ks, acc => by
    rw [List.foldl_cons]
    have h1 := foldl_addK_len ks (addK acc k)
    have h2 := addK_len acc k
    simp only [List.length_cons]
    omega
theorem addAll_take_succ {ks : List K} {i : Nat} {k : K} (e : ks[i]? = some k) : addAll (ks.take (i + 1)) = addK (addAll (ks.take i)) k := by
  obtain ⟨h, rfl⟩ := List.getElem?_eq_some_iff.mp e
  unfold addAll
  rw [List.take_succ_eq_append_getElem h, List.foldl_append]
  rfl
/-- a value that is a key -/
def IsV (knd : PySem.KeyKind prog w K) (v : Value) (k : K) : Prop := knd.is k v = true ∧ v.scannable = true
section
variable {R : Result → Shared → Prop} {I : Addr} {fp wr : List Addr} {G : Array GenState → Array GenState → Prop} {St : Nat → Shared → Prop} {items : Array Value}
theorem setLoop_k (W : WalksS prog w A.in1 I fp wr G items.size (fun i v => items[i]? = some v) St) (S : Addr) (hSf : S ∉ fp) {ks : List K} (hv : Paired (IsV knd) items.toList ks) (hb : items.size + 1 < scanBound) :
    ∀ (k i : Nat) (s : Shared), items.size - i = k → i ≤ items.size → St i s → SetK knd s.heap S (addAll (ks.take i)) →
      (∀ s', Moved (S :: wr) G s s' → SetK knd s'.heap S (addAll ks) → R (.ok (.ret .none)) s') →
      codeAny (model prog w) A (.builtin "set.update.loop" ⟨[.ref S, .ref I], []⟩) R s := by
  have hSw : S ∉ wr := fun h => hSf (W.sub _ h)
  have hsub : ∀ b ∈ wr, b ∈ S :: wr := fun b hb => List.mem_cons_of_mem _ hb
  have hlen : items.size = ks.length := by rw [← pd_len hv, Array.length_toList]
  intro k
  induction k with
  | zero =>
    intro i s hk hi hst hS hR
    have hin : i = items.size := by omega
    subst hin
    refine codeAny_builtin F.entry_set_update_loop ?_
    rw [Around.under_plainId F.plain_set_update_loop _]
    show wpAny _ A.in1 (pyNext (.ref I) >>= _) _ _ s
    refine wpAny_bind (W.done s _ _ hst fun s' hm => ?_)
    show wpAny _ A.in1 (ret Value.none) _ _ s'
    rw [List.take_of_length_le (by omega)] at hS
    exact wpAny_pure (hR s' (hm.mono hsub) (hS.at' fun o e => hm.heap S _ hSw e))
  | succ k ih =>
    intro i s hk hi hst hS hR
    have hlt : i < items.size := by omega
    refine codeAny_builtin F.entry_set_update_loop ?_
    rw [Around.under_plainId F.plain_set_update_loop _]
    show wpAny _ A.in1 (pyNext (.ref I) >>= _) _ _ s
    refine wpAny_bind (W.item i s _ _ hlt hst fun v s' hP hst' hm => ?_)
    obtain ⟨key, hke, hki, hks⟩ := pd_get hv (by rw [Array.getElem?_toList]; exact hP)
    have hS1 : SetK knd s'.heap S (addAll (ks.take i)) := hS.at' fun o e => hm.heap S _ hSw e
    show wpAny _ A.in1 (holding [v] (setAdd S v) >>= _) _ _ s'
    refine wpAny_bind (wpAny_holding ?_)
    unfold setAdd
    refine wpAny_holding ?_
    refine wpAny_bind (knd.pyHash (k := key) hki ?_)
    have hroom : (addAll (ks.take i)).length + 1 < scanBound := by
      have h1 := foldl_addK_len (ks.take i) []
      rw [List.length_take] at h1
      unfold addAll
      simp only [List.length_nil] at h1
      omega
    refine setAdd_k (s := { s' with toks := s'.toks + 1 }) hki hks hS1 hroom fun h' b hsb hS2 => ?_
    rw [← addAll_take_succ hke] at hS2
    refine wpAny_pure ⟨plainId_quiet F.plain_set_update_loop _, ih (i + 1) _ (by omega) hlt (W.frame _ s' _ _ hst' (Nat.le_succ _) fun b hb o e => ?_) hS2 fun s'' hm'' hS'' => ?_⟩
    · rw [hsb.2 b (fun h : b = S => hSf (by rw [← h]; exact hb))]
      exact e
    · refine hR s'' (Moved.trans W.gtrans ((hm.mono hsub).then_heap (Nat.le_succ _) fun b o hb e => ?_) hm'') hS''
      rw [hsb.2 b (fun h : b = S => hb (by rw [h]; exact List.mem_cons_self))]
      exact e
end
theorem code_newSet (a : Value) {Q₁ : Value → Shared → Prop}
    (h : Q₁ (.ref s.heap.objs.size) { s with heap := s.heap.push { cls := .type "set", dict := none, data := .set #[] 0 (.fresh 0 0 (!byTxt w)) } }) :
    codeAny (model prog w) A (.call (.builtin "set.__new__") ⟨[.type "set", a], []⟩) (wants Q₁ E) s := by
  refine codeAny_of_tree ?_
  show wpAny _ A.in1 (do checkBuiltinCall "set.__new__" ⟨[.type "set", a], []⟩; again (.builtin "set.__new__" ⟨[.type "set", a], []⟩)) _ _ s
  refine wpAny_bind (wpAny_of_eq (PySem.F.newCall_set_1 a) (wpAny_pure ⟨plainId_quiet PySem.F.plain_set_new _, codeAny_builtin PySem.F.entry_set_new ?_⟩))
  rw [Around.under_plainId PySem.F.plain_set_new _]
  unfold Builtin.«set.__new__» Builtin.Frozenset.newClass
  have hsub := sub_set_self
  obtain ⟨hp, g, d, tk, os⟩ := s
  dsimp only
  wp_walk
  refine wpAny_askSetting (wpAny_pure ?_)
  dsimp only
  simp only [newObj]
  refine wpAny_bind (wpAny_alloc (wpAny_pure ?_))
  exact wpAny_pure h
theorem fresh_k {h : Heap} : SetK knd (h.push { cls := .type "set", dict := none, data := .set #[] 0 (.fresh 0 0 (!byTxt w)) }) h.objs.size [] :=
  ⟨#[], 0, _, [], Heap.get?_push_size _ rfl, fun e he => by simp at he, .nil, .rfl, by decide, by rfl, rfl, List.Pairwise.nil⟩
set_option maxHeartbeats 3200000 in
theorem call_set_k {l : Addr} {items : Array Value} {ks : List K} {Q : Value → Shared → Prop}
    (hh : A.handled = none) (hl : s.heap.IsList l items) (hi : Paired (IsV knd) items.toList ks) (hb : items.size + 1 < scanBound)
    (h : ∀ (h' : Heap) (tk : Nat), SetK knd h' s.heap.objs.size (addAll ks) → (∀ b o, b < s.heap.objs.size → s.heap.get? b = some o → h'.get? b = some o) → Q (.ref s.heap.objs.size) { s with heap := h', toks := tk }) :
    wpAny (model prog w) A (call (.type "set") [.ref l]) Q E s := by
  obtain ⟨c, tl, hmro⟩ := PySem.F.called_set.mro
  have hmade := PySem.F.called_set.made
  have hsub := PySem.F.called_set.sub
  refine wpAny_call (codeAny_of_tree ?_)
  show wpAny _ _ (callAny (.type "set") _) _ _ _
  refine wpAny_pure ⟨Code.quiet_builtin _ (by decide +kernel), codeAny_builtin PySem.F.entry_type_call ?_⟩
  rw [Around.under_plain (weight_type_call_type "set" [.ref l] []) rfl]
  have h1 := PySem.F.called_set.notType
  have h2 := PySem.F.called_set.canCreate
  have hct := PySem.F.typeCall_set_1 (.ref l)
  repeat (any_goals (first | assumption | wp_step))
  refine codeAny_mono (code_newSet (.ref l) (E := E) (Q₁ := fun obj s₁ => obj = .ref s.heap.objs.size ∧ s₁ = { s with heap := s.heap.push { cls := .type "set", dict := none, data := .set #[] 0 (.fresh 0 0 (!byTxt w)) } }) ⟨rfl, rfl⟩) fun r s₁ hr => ?_
  cases r with
  | error e => exact hr
  | ok fl =>
    cases fl with
    | ret obj =>
      obtain ⟨rfl, rfl⟩ := hr
      have hS : (s.heap.push { cls := .type "set", dict := none, data := .set #[] 0 (.fresh 0 0 (!byTxt w)) }).get? s.heap.objs.size = some { cls := .type "set", dict := none, data := .set #[] 0 (.fresh 0 0 (!byTxt w)) } := Heap.get?_push_size _ rfl
      have hT : Shared.TypeIs { s with heap := s.heap.push { cls := .type "set", dict := none, data := .set #[] 0 (.fresh 0 0 (!byTxt w)) } } (.ref s.heap.objs.size) "set" := ⟨_, hS, rfl⟩
      have hli := PySem.F.called_set.init.lookup
      have hbi := PySem.F.called_set.init.bind (.ref s.heap.objs.size)
      repeat (any_goals (first | assumption | wp_step))
      refine codeAny_mono (codeAny_call_builtin (R := wants (fun r s₂ => r = .none ∧ ∃ h' tk, s₂ = { s with heap := h', toks := tk } ∧ SetK knd h' s.heap.objs.size (addAll ks) ∧
          (∀ b o, b < s.heap.objs.size → s.heap.get? b = some o → h'.get? b = some o)) E) PySem.F.called_set.init.plain PySem.F.entry_set_init (check_set_init_1 hT ?_)) fun r₂ s₂ hr₂ => ?_
      · obtain ⟨ol, hol, hcl, nl, hdl⟩ := hl
        obtain ⟨ocls, odict, odata, oslots⟩ := ol
        simp only at hcl hdl
        subst hcl
        subst hdl
        have hol' : (s.heap.push { cls := .type "set", dict := none, data := .set #[] 0 (.fresh 0 0 (!byTxt w)) }).get? l = some { cls := .type "list", dict := odict, data := .seq items nl, slots := oslots } := Heap.get?_push_of_some _ hol
        have hsls := PySem.F.sub_list_set
        have hslf := PySem.F.sub_list_frozenset
        have hne : (Value.type "list" == Value.type "dict") = false := by decide
        have hl1 : (s.heap.push { cls := .type "set", dict := none, data := .set #[] 0 (.fresh 0 0 (!byTxt w)) }).IsList l items := ⟨_, hol', rfl, nl, rfl⟩
        unfold Builtin.«set.__init__» noKeywords Builtin.Frozenset.updateFrom
        generalize hPI : pyIter = PI
        wp_walk
        subst hPI
        refine wpAny_pyIter_list hl1 ?_
        refine wpAny_bind (wpAny_runValue ?_)
        have hlS : l < s.heap.objs.size := Heap.lt_size hol
        have hh3 : A.in1.in1.in1.handled = none := by simp [hh]
        have hneI : l ≠ (s.heap.push { cls := .type "set", dict := none, data := .set #[] 0 (.fresh 0 0 (!byTxt w)) }).objs.size := by
          rw [Heap.size_push]
          exact Nat.ne_of_lt (Nat.lt_succ_of_lt hlS)
        have hSf : s.heap.objs.size ∉ [(s.heap.push { cls := .type "set", dict := none, data := .set #[] 0 (.fresh 0 0 (!byTxt w)) }).objs.size, l] := by
          rw [Heap.size_push]
          simp only [List.mem_cons, List.mem_singleton, List.not_mem_nil, or_false, not_or]
          exact ⟨Nat.ne_of_lt (Nat.lt_succ_self _), Nat.ne_of_gt hlS⟩
        refine setLoop_k (knd := knd) ((Walks.list hh3 _ l hneI items).toS) s.heap.objs.size hSf hi hb (items.size - 0) 0 _ (by omega) (Nat.zero_le _)
          ⟨⟨_, Heap.get?_push_size _ rfl, rfl, rfl⟩, (hl1.push _)⟩ ?hS0 ?hR
        case hS0 =>
          refine SetK.at' (fresh_k (knd := knd) (h := s.heap)) fun o e => Heap.get?_push_of_some _ e
        case hR =>
          intro s' hm hS'
          obtain ⟨h', g', d', tk', os'⟩ := s'
          have eg : g' = s.gens := hm.gens
          have ed : d' = s.drawn := hm.drawn
          have eo : os' = s.os := hm.os
          subst eg
          subst ed
          subst eo
          show wpAny _ _ _ _ _ _
          refine wpAny_pure ?_
          show wpAny _ _ (ret Value.none) _ _ _
          refine wpAny_pure ⟨rfl, h', tk', rfl, hS', fun b o hb e => ?_⟩
          have hb1 : b ≠ s.heap.objs.size := Nat.ne_of_lt hb
          have hb2 : b ≠ (s.heap.push { cls := .type "set", dict := none, data := .set #[] 0 (.fresh 0 0 (!byTxt w)) }).objs.size := by
            rw [Heap.size_push]
            exact Nat.ne_of_lt (Nat.lt_succ_of_lt hb)
          exact hm.heap b o (by simp only [List.mem_cons, List.mem_singleton, List.not_mem_nil, or_false, not_or]; exact ⟨hb1, hb2⟩) (Heap.get?_push_of_some _ (Heap.get?_push_of_some _ e))
      · cases r₂ with
        | error e => exact hr₂
        | ok fl₂ =>
          cases fl₂ with
          | ret r =>
            obtain ⟨rfl, h', tk, rfl, hS', hk'⟩ := hr₂
            repeat (any_goals (first | assumption | wp_step))
            exact h _ _ hS' hk'
          | _ => exact hr₂.elim
    | _ => exact hr.elim
end
end D
end
section
set_option linter.all false
set_option Elab.async false
set_option maxRecDepth 100000
set_option autoImplicit false
namespace D
open PySem PySem.Spec PyProof.Rows L2

theorem slot_setit_next : Slot "set_iterator" "__next__" "set_iterator.__next__" :=
  .of (owner := "set_iterator") (n := "__next__") (by rw [typeLookup_type, builtinLookup_eq_fast]; kernel_rfl) (by decide +kernel) (by decide +kernel) (by decide +kernel)
    (by first | exact .inl (by decide +kernel) | exact .inr (by decide +kernel)) (by rw [isSubtype_type]; kernel_rfl)
theorem slot_setit_iter : Slot "set_iterator" "__iter__" "set_iterator.__iter__" :=
  .of (owner := "set_iterator") (n := "__iter__") (by rw [typeLookup_type, builtinLookup_eq_fast]; kernel_rfl) (by decide +kernel) (by decide +kernel) (by decide +kernel)
    (by first | exact .inl (by decide +kernel) | exact .inr (by decide +kernel)) (by rw [isSubtype_type]; kernel_rfl)
theorem entry_setit_next : entryFor table "set_iterator.__next__" = some Builtin.«set_iterator.__next__» := entryFor_of_tree (by kernel_rfl)
theorem owner_setit : Manifest.owners.lookup (String.ofList ['r', 'o', 't', 'a', 'r', 'e', 't', 'i', '_', 't', 'e', 's'].reverse) = some Manifest.sig_set_iterator := by kernel_rfl
theorem args_setit_next (a : Value) : argsOk "set_iterator.__next__" ⟨[a], []⟩ := by
  unfold argsOk
  rw [signature?_of (id := "set_iterator.__next__") (n := ['_', '_', 't', 'x', 'e', 'n', '_', '_']) (o := ['r', 'o', 't', 'a', 'r', 'e', 't', 'i', '_', 't', 'e', 's']) (by kernel_rfl) owner_setit]
  kernel_rfl
theorem entry_set_iter : entryFor table "set.__iter__" = some Builtin.«frozenset.__iter__» :=
  entryFor_alias (id' := "frozenset.__iter__") (by kernel_rfl) (by decide +kernel) (by decide +kernel) (by kernel_rfl)

/-! ### orders -/
theorem eraseIdx_perm {α : Type} : ∀ {l : List α} {i : Nat} {x : α}, l[i]? = some x → (x :: l.eraseIdx i).Perm l
  | [], i, x, e => by simp at e
  | a :: r, 0, x, e => by
    simp at e
    subst e
    exact .rfl
  | a :: r, i + 1, x, e => by
    simp only [List.getElem?_cons_succ] at e
    rw [List.eraseIdx_cons_succ]
    exact (List.Perm.swap _ _ _).trans ((eraseIdx_perm e).cons _)
theorem pick_go {α : Type} (f : Nat → Nat) : ∀ (n k : Nat) (l : List α) (out : Array α), l.length = n → (pickOrder.go f n k l out).toList.Perm (out.toList ++ l)
  | 0, k, l, out, e => by
    rw [List.length_eq_zero_iff.mp e, List.append_nil]
    exact .rfl
  | n + 1, k, l, out, e => by
    unfold pickOrder.go
    have hlt : f k % l.length < l.length := Nat.mod_lt _ (by omega)
    rw [List.getElem?_eq_getElem hlt]
    dsimp only
    have hp := eraseIdx_perm (List.getElem?_eq_getElem hlt)
    refine (pick_go f n (k + 1) _ _ ?_).trans ?_
    · rw [List.length_eraseIdx]
      rw [if_pos hlt, e]
      rfl
    · rw [Array.toList_push, List.append_assoc]
      exact hp.append_left _
theorem pick_perm {α : Type} (f : Nat → Nat) (xs : Array α) : (pickOrder f xs).toList.Perm xs.toList := by
  have := pick_go f xs.size 0 xs.toList #[] (by simp)
  rw [show (#[] : Array α).toList ++ xs.toList = xs.toList from rfl] at this
  exact this
section
variable {prog : Program} {w : World} {A : Around} {E : Value → Shared → Prop} {s : Shared}
theorem wp_choose' {src : Source} {n : Nat} {Q : Nat → Shared → Prop} (hn : n ≠ 0) (h : ∀ i, i < n → Q i { s with drawn := s.drawn.bump src }) : wpAny (model prog w) A (choose src n) Q E s := fun Γ p hΓ => by
  unfold choose
  rw [Sem.wp_choose]
  exact ⟨hn, h _ (Nat.mod_lt _ (Nat.pos_of_ne_zero hn))⟩
theorem wp_drawOrder {α : Type} : ∀ (n : Nat) (xs : List α) (s : Shared) (Q : List α → Shared → Prop), xs.length = n → (∀ ys d, ys.Perm xs → Q ys { s with drawn := d }) → wpAny (model prog w) A (drawOrder n xs) Q E s
  | 0, xs, s, Q, e, h => by
    rw [List.length_eq_zero_iff.mp e] at h ⊢
    exact wpAny_pure (h [] s.drawn .rfl)
  | n + 1, [], s, Q, e, h => by simp at e
  | n + 1, x :: xs, s, Q, e, h => by
    unfold drawOrder
    refine wpAny_bind (wp_choose' (by simp) fun i hi => ?_)
    rw [List.getElem?_eq_getElem hi]
    dsimp only
    have hp := eraseIdx_perm (List.getElem?_eq_getElem hi)
    refine wpAny_bind (wp_drawOrder n _ _ _ ?_ fun ys d p => ?_)
    · rw [List.length_eraseIdx]
      simp only [hi, if_true]
      simp at e ⊢
      omega
    · exact wpAny_pure (h _ d ((p.cons _).trans hp))
end
theorem below_slot {xs : Array Nat} (h : Rs xs) {i : Nat} (hi : i ≤ xs.size) (sl : Nat) (h0 : i = 0 → sl = 0) (h1 : ∀ k, i = k + 1 → ∃ y, xs.toList[k]? = some y ∧ sl = y + 1) : SetTable.below xs sl = i := by
  obtain ⟨a, b, c⟩ := below_cuts sl h
  generalize SetTable.below xs sl = p at *
  rcases Nat.lt_trichotomy p i with q | q | q
  · obtain ⟨k, rfl⟩ : ∃ k, i = k + 1 := ⟨i - 1, by omega⟩
    obtain ⟨y, e1, e2⟩ := h1 k rfl
    have := c k (by omega) y e1
    omega
  · exact q
  · have hlt : i < xs.toList.length := by simp; omega
    have hx : xs.toList[i]? = some xs.toList[i] := List.getElem?_eq_getElem hlt
    have h2 := b i q _ hx
    rcases Nat.eq_zero_or_pos i with z | z
    · have := h0 z
      omega
    · obtain ⟨k, rfl⟩ : ∃ k, i = k + 1 := ⟨i - 1, by omega⟩
      obtain ⟨y, e1, e2⟩ := h1 k rfl
      have := List.pairwise_iff_getElem.mp h k (k + 1) (List.getElem?_eq_some_iff.mp e1).1 hlt (by omega)
      obtain ⟨_, rfl⟩ := List.getElem?_eq_some_iff.mp e1
      omega

/-! ### a set walked -/
section
variable {prog : Program} {w : World} {A : Around} {E : Value → Shared → Prop} {s : Shared}
def SetObj (h : Heap) (a : Addr) (es : Array (Int × Value)) (ep : Nat) (t : SetTable) : Prop := h.get? a = some { cls := .type "set", dict := none, data := .set es ep t, slots := #[] }
def SetIt (h : Heap) (I : Addr) (fs : Array Value) : Prop := h.get? I = some { cls := .type "set_iterator", dict := none, data := .fields fs, slots := #[] }
theorem SetIt.typeIs {I : Addr} {fs : Array Value} (h : SetIt s.heap I fs) : s.TypeIs (.ref I) "set_iterator" := ⟨_, h, rfl⟩
variable {a I : Addr} {es : Array (Int × Value)} {ep : Nat} {t : SetTable}
/-- what the next is, of an iterator that goes by slots -/
theorem setNext_txt {sl i : Nat} {Q : Option (Value × Nat) → Shared → Prop} (hS : SetObj s.heap a es ep t) (hf : t.fits es.size = true) (hb : byTxt w = true)
    (h : Q (((pickOrder (w.params.setOrder a ep) es)[i]?).map fun e => (e.2, sl)) s) : wpAny (model prog w) A (setNext a sl i ep) Q E s := by
  unfold setNext setWalk setsByText
  refine wpAny_bind (wpAny_setState_of hS rfl hf ?_)
  dsimp only
  refine wpAny_bind (wpAny_bind (wpAny_askSetting (wpAny_pure ?_)))
  rw [show (model prog w).w.params.followText "set-order" = true from hb]
  simp only [if_true]
  rw [if_neg (by simp)]
  refine wpAny_bind (wpAny_bind (wpAny_setState_of hS rfl hf ?_))
  dsimp only
  refine wpAny_bind (wpAny_bind (wpAny_askSetting (wpAny_pure ?_)))
  rw [show (model prog w).w.params.followText "set-order" = true from hb]
  simp only [if_true]
  refine wpAny_bind (wpAny_askSetting (wpAny_pure (wpAny_pure ?_)))
  exact h
theorem setNext_led {sl i : Nat} {Q : Option (Value × Nat) → Shared → Prop} (hS : SetObj s.heap a es ep t) (hf : t.fits es.size = true) (hb : byTxt w = false) (hl : t.led = true) (hd : (!t.plain && decide (es.size > 1)) = false)
    (h : Q (match es[SetTable.below t.place sl]?, t.place[SetTable.below t.place sl]? with | some (_, x), some j => some (x, j + 1) | _, _ => none) s) : wpAny (model prog w) A (setNext a sl i ep) Q E s := by
  unfold setNext setsByText
  refine wpAny_bind (wpAny_setState_of hS rfl hf ?_)
  dsimp only
  refine wpAny_bind (wpAny_bind (wpAny_askSetting (wpAny_pure ?_)))
  rw [show (model prog w).w.params.followText "set-order" = false from hb]
  simp only [Bool.false_eq_true, if_false]
  show wpAny _ _ (if (!t.plain && decide (es.size > 1)) = true then _ else _) _ _ _
  rw [hd]
  simp only [Bool.false_eq_true, if_false]
  show wpAny _ _ ((if (!t.led && !es.isEmpty) = true then unsupported "set:maker-not-led" else pure ()) >>= _) _ _ _
  rw [hl]
  simp only [Bool.not_true, Bool.false_and, Bool.false_eq_true, if_false]
  exact wpAny_bind (wpAny_pure (wpAny_pure h))
theorem pyNext_slot {sl i : Nat} {Q : Option Value → Shared → Prop} (hit : SetIt s.heap I #[.int sl 0, .int i 0, .ref a, .int es.size 0, .int ep 0]) (hS : SetObj s.heap a es ep t) (hf : t.fits es.size = true) {x : Value} {nx : Nat}
    (hn : ∀ (A : Around) (E : Value → Shared → Prop) (Q : Option (Value × Nat) → Shared → Prop), Q (some (x, nx)) s → wpAny (model prog w) A (setNext a sl i ep) Q E s)
    (hQ : ∀ h', SetIt h' I #[.int nx 0, .int ((i + 1 : Nat) : Int) 0, .ref a, .int es.size 0, .int ep 0] → Heap.SameBut I s.heap h' → Q (some x) { s with heap := h' }) : wpAny (model prog w) A (pyNext (.ref I)) Q E s := by
  unfold pyNext
  refine wpAny_bind (wpAny_attempt (wpAny_callSpecial?_slot (name := Str.ofString "__next__") hit.typeIs slot_setit_next (wpAny_call_entry slot_setit_next hit.typeIs entry_setit_next ?_ (args_setit_next _))))
  unfold Builtin.«set_iterator.__next__»
  refine wpAny_bind (wpAny_pure ?_)
  refine wpAny_bind (wpAny_fieldsOf hit rfl ?_)
  dsimp only
  refine wpAny_bind (wpAny_setEntries_of hS rfl hf ?_)
  rw [if_neg (by simp)]
  simp only [Int.toNat_natCast]
  refine wpAny_bind (hn _ _ _ ?_)
  dsimp only
  refine wpAny_bind (wpAny_setField_rec hit (by simp) fun h1 e1 b1 => ?_)
  refine wpAny_bind (wpAny_setField_rec e1 (by simp) fun h2 e2 b2 => ?_)
  refine wpAny_pure ⟨_, rfl, wpAny_pure (hQ h2 ?_ (b1.trans b2))⟩
  exact e2
theorem raise_stop {Q : Option Value → Shared → Prop} {s : Shared} (hh : A.handled = none) (hQ : ∀ h', (∀ b o, s.heap.get? b = some o → h'.get? b = some o) → Q none { s with heap := h' }) {B : Type} {Q' : B → Shared → Prop} :
    wpAny (model prog w) A.in1 (newExc (.type "StopIteration") [] >>= fun e => raiseNew e) Q' (fun e s' => wpAny (model prog w) A (isInstance e (.type "StopIteration") >>= fun b => if b = true then pure none else throw e) Q E s') s := by
  refine wpAny_bind ?_
  simp only [newExc, newTuple]
  refine wpAny_bind (wpAny_newObj_type ?_ (by size_fits))
  refine wpAny_bind (m := firstArgMember _ _) (wpAny_of_eq (a := Value.none) (by first | rfl | (simp only [firstArgMember]; rfl)) ?_)
  refine wpAny_newObj_type ?_ (by size_fits)
  simp only [raiseNew]
  refine wpAny_bind (wpAny_handled ?_)
  rw [show A.in1.handled = none from hh]
  refine wpAny_bind (wpAny_pure (wpAny_throw ?_))
  refine wpAny_bind (wpAny_isInstance (T := "StopIteration") (b := true) ⟨_, Heap.get?_push_size _ rfl, rfl⟩ isSubtype_stop ?_)
  exact wpAny_pure (hQ _ fun b o e => Heap.get?_push_of_some _ (Heap.get?_push_of_some _ e))

theorem next_stop {Q : Option Value → Shared → Prop} (hh : A.handled = none) (hT : s.TypeIs (.ref I) "set_iterator")
    (hm : ∀ {Q' : Fin → Shared → Prop} {E' : Value → Shared → Prop}, (∀ h', Heap.SameBut I s.heap h' → wpAny (model prog w) A.in1 (newExc (.type "StopIteration") [] >>= fun e => raiseNew e) Q' E' { s with heap := h' }) → wpAny (model prog w) A.in1 (Builtin.«set_iterator.__next__» ⟨[.ref I], []⟩) Q' E' s)
    (hQ : ∀ h', Heap.ExtBut I s.heap h' → Q none { s with heap := h' }) : wpAny (model prog w) A (pyNext (.ref I)) Q E s := by
  unfold pyNext
  refine wpAny_bind (wpAny_attempt (wpAny_callSpecial?_slot (name := Str.ofString "__next__") hT slot_setit_next (wpAny_call_entry slot_setit_next hT entry_setit_next ?_ (args_setit_next _))))
  refine hm fun h' hb => ?_
  exact raise_stop (s := { s with heap := h' }) hh fun h2 k2 => hQ h2 fun b o hb' e => k2 b o (hb.extBut b o hb' e)
end
end D
end
section
set_option linter.all false
set_option Elab.async false
set_option maxRecDepth 100000
set_option autoImplicit false
namespace D
open PySem PySem.Spec PyProof.Rows L2

theorem entry_setit_iter : entryFor table "set_iterator.__iter__" = some Builtin.«dict_keyiterator.__iter__» :=
  entryFor_alias (id' := "dict_keyiterator.__iter__") (by kernel_rfl) (by decide +kernel) (by decide +kernel) (by kernel_rfl)
theorem args_setit_iter (a : Value) : argsOk "set_iterator.__iter__" ⟨[a], []⟩ := by
  unfold argsOk
  rw [signature?_of (id := "set_iterator.__iter__") (n := ['_', '_', 'r', 'e', 't', 'i', '_', '_']) (o := ['r', 'o', 't', 'a', 'r', 'e', 't', 'i', '_', 't', 'e', 's']) (by kernel_rfl) owner_setit]
  kernel_rfl
section
variable {prog : Program} {w : World} {A : Around} {E : Value → Shared → Prop} {s : Shared}
variable {a I : Addr} {es : Array (Int × Value)} {ep : Nat} {t : SetTable}
theorem pyIter_setit {Q : Value → Shared → Prop} (hT : s.TypeIs (.ref I) "set_iterator") (h : Q (.ref I) s) : wpAny (model prog w) A (pyIter (.ref I)) Q E s := by
  refine wpAny_pyIter_slot hT slot_setit_iter (wpAny_call_entry slot_setit_iter hT entry_setit_iter ?_ (args_setit_iter _))
  show wpAny _ _ (ret (.ref I)) _ _ s
  exact wpAny_pure ⟨_, rfl, "set_iterator", _, hT, slot_setit_next.lookup, h⟩
theorem end_slot {sl i : Nat} {Q : Option Value → Shared → Prop} (hh : A.handled = none) (hit : SetIt s.heap I #[.int sl 0, .int i 0, .ref a, .int es.size 0, .int ep 0]) (hS : SetObj s.heap a es ep t) (hf : t.fits es.size = true)
    (hn : ∀ (A : Around) (E : Value → Shared → Prop) (Q : Option (Value × Nat) → Shared → Prop), Q none s → wpAny (model prog w) A (setNext a sl i ep) Q E s)
    (hQ : ∀ h', Heap.ExtBut I s.heap h' → Q none { s with heap := h' }) : wpAny (model prog w) A (pyNext (.ref I)) Q E s := by
  refine next_stop hh hit.typeIs (fun {Q' E'} hk => ?_) hQ
  unfold Builtin.«set_iterator.__next__»
  refine wpAny_bind (wpAny_pure ?_)
  refine wpAny_bind (wpAny_fieldsOf hit rfl ?_)
  dsimp only
  refine wpAny_bind (wpAny_setEntries_of hS rfl hf ?_)
  rw [if_neg (by simp)]
  simp only [Int.toNat_natCast]
  refine wpAny_bind (hn _ _ _ ?_)
  dsimp only
  refine wpAny_bind (wpAny_setField_rec hit (by simp) fun h1 e1 b1 => ?_)
  exact hk h1 b1
/-- the places drawn -/
def Places (h : Heap) (tp : Addr) (ps : List Nat) : Prop := h.get? tp = some { cls := .type "tuple", dict := none, data := .seq (ps.map fun (i : Nat) => rawInt i).toArray, slots := #[] }
theorem item_drawn {tp : Addr} {i : Nat} {ps : List Nat} {p : Nat} {x : Int × Value} {Q : Option Value → Shared → Prop} (hit : SetIt s.heap I #[.ref tp, .int i 0, .ref a, .int es.size 0, .int ep 0]) (hS : SetObj s.heap a es ep t) (hf : t.fits es.size = true)
    (hp : Places s.heap tp ps) (h1 : ps[i]? = some p) (h2 : es[p]? = some x)
    (hQ : ∀ h', SetIt h' I #[.ref tp, .int ((i + 1 : Nat) : Int) 0, .ref a, .int es.size 0, .int ep 0] → Heap.SameBut I s.heap h' → Q (some x.2) { s with heap := h' }) : wpAny (model prog w) A (pyNext (.ref I)) Q E s := by
  unfold pyNext
  refine wpAny_bind (wpAny_attempt (wpAny_callSpecial?_slot (name := Str.ofString "__next__") hit.typeIs slot_setit_next (wpAny_call_entry slot_setit_next hit.typeIs entry_setit_next ?_ (args_setit_next _))))
  unfold Builtin.«set_iterator.__next__»
  refine wpAny_bind (wpAny_pure ?_)
  refine wpAny_bind (wpAny_fieldsOf hit rfl ?_)
  dsimp only
  refine wpAny_bind (wpAny_setEntries_of hS rfl hf ?_)
  rw [if_neg (by simp)]
  unfold seqItems?
  refine wpAny_bind (wpAny_bind (wpAny_load hp (wpAny_pure ?_)))
  dsimp only
  have hg : ((ps.map fun (i : Nat) => rawInt i).toArray)[i]? = some (.int p 0) := by
    simp [h1, rawInt]
  simp only [Int.toNat_natCast]
  rw [hg]
  dsimp only
  unfold setNextDrawn
  refine wpAny_bind (wpAny_bind (wpAny_setState_of hS rfl hf ?_))
  dsimp only
  simp only [Int.toNat_natCast, bne_self_eq_false, Bool.false_eq_true, if_false, h2]
  refine wpAny_pure ?_
  refine wpAny_bind (wpAny_setField_rec hit (by simp) fun h1 e1 b1 => ?_)
  exact wpAny_pure ⟨_, rfl, wpAny_pure (hQ h1 e1 b1)⟩
theorem end_drawn {tp : Addr} {i : Nat} {ps : List Nat} {Q : Option Value → Shared → Prop} (hh : A.handled = none) (hit : SetIt s.heap I #[.ref tp, .int i 0, .ref a, .int es.size 0, .int ep 0]) (hS : SetObj s.heap a es ep t) (hf : t.fits es.size = true)
    (hp : Places s.heap tp ps) (h1 : ps[i]? = none)
    (hQ : ∀ h', Heap.ExtBut I s.heap h' → Q none { s with heap := h' }) : wpAny (model prog w) A (pyNext (.ref I)) Q E s := by
  refine next_stop hh hit.typeIs (fun {Q' E'} hk => ?_) hQ
  unfold Builtin.«set_iterator.__next__»
  refine wpAny_bind (wpAny_pure ?_)
  refine wpAny_bind (wpAny_fieldsOf hit rfl ?_)
  dsimp only
  refine wpAny_bind (wpAny_setEntries_of hS rfl hf ?_)
  rw [if_neg (by simp)]
  unfold seqItems?
  refine wpAny_bind (wpAny_bind (wpAny_load hp (wpAny_pure ?_)))
  dsimp only
  have hg : ((ps.map fun (i : Nat) => rawInt i).toArray)[i]? = none := by
    have := List.getElem?_eq_none_iff.mp h1
    simp [h1]
  simp only [Int.toNat_natCast]
  rw [hg]
  dsimp only
  refine wpAny_bind (wpAny_setField_rec hit (by simp) fun h1 e1 b1 => ?_)
  refine wpAny_bind (wpAny_setField_rec e1 (by simp) fun h2 e2 b2 => ?_)
  exact hk h2 (b1.trans b2)

/-! the three walks -/
def ltx (f : Nat → Nat) (es : Array (Int × Value)) : List Value := (pickOrder f es).toList.map (·.2)
theorem walk_txt (hh : A.handled = none) (hne : a ≠ I) (hf : t.fits es.size = true) (hb : byTxt w = true) :
    Walks prog w A I [I, a] [I] es.size (fun i v => (ltx (w.params.setOrder a ep) es)[i]? = some v) (fun i h => (∃ sl : Nat, SetIt h I #[.int sl 0, .int i 0, .ref a, .int es.size 0, .int ep 0]) ∧ SetObj h a es ep t) := by
  have hsz : (pickOrder (w.params.setOrder a ep) es).size = es.size := by
    rw [← Array.length_toList, (pick_perm _ es).length_eq, Array.length_toList]
  refine ⟨fun b hb => by simp at hb; simp [hb], ?_, ?_, ?_, ?_⟩
  · rintro i h h' ⟨⟨sl, x⟩, y⟩ hk
    exact ⟨⟨sl, hk I (by simp) _ x⟩, hk a (by simp) _ y⟩
  · rintro i s Q E hi ⟨⟨sl, x⟩, y⟩ hQ
    have hi' : i < (pickOrder (w.params.setOrder a ep) es).size := by rw [hsz]; exact hi
    refine pyNext_slot (x := ((pickOrder (w.params.setOrder a ep) es)[i]).2) (nx := sl) x y hf (fun A' E' Q' q => setNext_txt y hf hb (by rw [Array.getElem?_eq_getElem hi']; exact q)) fun h' x' b' => ?_
    refine hQ _ h' s.toks ?_ ⟨⟨sl, x'⟩, b'.extBut a _ hne y⟩ fun b o hb e => b'.extBut b o (fun h => hb (by simp [h])) e
    unfold ltx
    rw [List.getElem?_map, Array.getElem?_toList, Array.getElem?_eq_getElem hi']
    rfl
  · rintro s Q E ⟨⟨sl, x⟩, y⟩ hQ
    refine end_slot hh x y hf (fun A' E' Q' q => setNext_txt y hf hb (by rw [Array.getElem?_eq_none (by rw [hsz]; exact Nat.le_refl _)]; exact q)) fun h' he' => hQ h' s.toks fun b o hb e => he' b o (fun h => hb (by simp [h])) e
  · rintro i s Q E ⟨⟨sl, x⟩, y⟩ hQ
    exact pyIter_setit x.typeIs hQ
def SlotOk (xs : Array Nat) (i sl : Nat) : Prop := (i = 0 → sl = 0) ∧ ∀ k, i = k + 1 → ∃ y, xs.toList[k]? = some y ∧ sl = y + 1
theorem walk_led (hh : A.handled = none) (hne : a ≠ I) (hf : t.fits es.size = true) (hb : byTxt w = false) (hl : t.led = true) (hr : Rs t.place) (hd : (!t.plain && decide (es.size > 1)) = false) :
    Walks prog w A I [I, a] [I] es.size (fun i v => (es.toList.map (·.2))[i]? = some v) (fun i h => (∃ sl : Nat, SlotOk t.place i sl ∧ SetIt h I #[.int sl 0, .int i 0, .ref a, .int es.size 0, .int ep 0]) ∧ SetObj h a es ep t) := by
  have hsz : t.place.size = es.size := by
    simp only [SetTable.fits, Bool.and_eq_true, beq_iff_eq] at hf
    exact hf.1
  refine ⟨fun b hb => by simp at hb; simp [hb], ?_, ?_, ?_, ?_⟩
  · rintro i h h' ⟨⟨sl, o, x⟩, y⟩ hk
    exact ⟨⟨sl, o, hk I (by simp) _ x⟩, hk a (by simp) _ y⟩
  · rintro i s Q E hi ⟨⟨sl, o, x⟩, y⟩ hQ
    have hbel := below_slot hr (i := i) (by omega) sl o.1 o.2
    have hi2 : i < t.place.size := by omega
    refine pyNext_slot (x := (es[i]).2) (nx := t.place[i] + 1) x y hf (fun A' E' Q' q => setNext_led y hf hb hl hd (by rw [hbel, Array.getElem?_eq_getElem hi, Array.getElem?_eq_getElem hi2]; exact q)) fun h' x' b' => ?_
    refine hQ _ h' s.toks (by simp [hi]) ⟨⟨_, ⟨fun z => by omega, fun k z => ?_⟩, x'⟩, b'.extBut a _ hne y⟩ fun b o hb e => b'.extBut b o (fun h => hb (by simp [h])) e
    have : k = i := by omega
    subst this
    exact ⟨t.place[k], by rw [Array.getElem?_toList, Array.getElem?_eq_getElem hi2], rfl⟩
  · rintro s Q E ⟨⟨sl, o, x⟩, y⟩ hQ
    have hbel := below_slot hr (i := es.size) (by omega) sl o.1 o.2
    refine end_slot hh x y hf (fun A' E' Q' q => setNext_led y hf hb hl hd (by rw [hbel, Array.getElem?_eq_none (Nat.le_refl _)]; exact q)) fun h' he' => hQ h' s.toks fun b o hb e => he' b o (fun h => hb (by simp [h])) e
  · rintro i s Q E ⟨⟨sl, o, x⟩, y⟩ hQ
    exact pyIter_setit x.typeIs hQ
theorem walk_drawn {tp : Addr} {ps : List Nat} (hh : A.handled = none) (hne : a ≠ I) (hne2 : tp ≠ I) (hf : t.fits es.size = true) (hps : ps.Perm (List.range es.size)) :
    Walks prog w A I [I, a, tp] [I] es.size (fun i v => (ps.map fun p => (es.getD p (0, .none)).2)[i]? = some v) (fun i h => SetIt h I #[.ref tp, .int i 0, .ref a, .int es.size 0, .int ep 0] ∧ SetObj h a es ep t ∧ Places h tp ps) := by
  have hln : ps.length = es.size := by rw [hps.length_eq, List.length_range]
  refine ⟨fun b hb => by simp at hb; simp [hb], ?_, ?_, ?_, ?_⟩
  · rintro i h h' ⟨x, y, z⟩ hk
    exact ⟨hk I (by simp) _ x, hk a (by simp) _ y, hk tp (by simp) _ z⟩
  · rintro i s Q E hi ⟨x, y, z⟩ hQ
    have hi2 : i < ps.length := by omega
    have hlt : ps[i] < es.size := List.mem_range.mp (hps.mem_iff.mp (List.getElem_mem hi2))
    refine item_drawn x y hf z (List.getElem?_eq_getElem hi2) (Array.getElem?_eq_getElem hlt) fun h' x' b' => ?_
    refine hQ _ h' s.toks ?_ ⟨x', b'.extBut a _ hne y, b'.extBut tp _ hne2 z⟩ fun b o hb e => b'.extBut b o (fun h => hb (by simp [h])) e
    rw [List.getElem?_map, List.getElem?_eq_getElem hi2]
    simp [Array.getD, hlt]
  · rintro s Q E ⟨x, y, z⟩ hQ
    exact end_drawn hh x y hf z (List.getElem?_eq_none (by omega)) fun h' he' => hQ h' s.toks fun b o hb e => he' b o (fun h => hb (by simp [h])) e
  · rintro i s Q E ⟨x, y, z⟩ hQ
    exact pyIter_setit x.typeIs hQ
end
end D
end
section
set_option linter.all false
set_option Elab.async false
set_option maxRecDepth 100000
set_option autoImplicit false
namespace D
open PySem PySem.Spec PyProof.Rows L2
section
variable {prog : Program} {w : World} {K : Type} [DecidableEq K] {knd : PySem.KeyKind prog w K} {A : Around} {E : Value → Shared → Prop} {s : Shared} {a : Addr} {ks : List K}
theorem pd_vals {es : List (Int × Value)} {l : List (Int × Value)} {ks : List K} (hel : ElemsOf knd es) (hp : Paired (IsK knd) es ks) (hl : l.Perm es) : ∃ ks', Paired (IsV knd) (l.map (·.2)) ks' ∧ ks'.Perm ks := by
  obtain ⟨ks', h1, h2⟩ := pd_perm hl hp
  refine ⟨ks', ?_, h2⟩
  have hel' : ElemsOf knd l := hel.perm hl
  clear h2 hl hp hel
  induction h1 with
  | nil => exact .nil
  | cons x y ih => exact .cons ⟨x, hel'.head.2⟩ (ih hel'.tail)
theorem range_getD {α : Type} (d : α) : ∀ (l : List α), (List.range l.length).map (fun i => l.getD i d) = l
  | [] => rfl
  | x :: r => by
    rw [List.length_cons, List.range_succ_eq_map, List.map_cons, List.map_map]
    congr 1
    exact range_getD d r
theorem SetK.typeIs (h : SetK knd s.heap a ks) : s.TypeIs (.ref a) "set" := let ⟨_, _, _, _, h, _⟩ := h; ⟨_, h, rfl⟩
theorem SetK.lt {h : Heap} (x : SetK knd h a ks) : a < h.objs.size := let ⟨_, _, _, _, h, _⟩ := x; Heap.lt_size h
theorem pyIter_set {Q : Value → Shared → Prop} (hS : SetK knd s.heap a ks)
    (h : ∀ (I : Addr) (h' : Heap) (d' : Drawn) (vs : List Value) (ks' : List K) (fp : List Addr) (St : Nat → Heap → Prop), Paired (IsV knd) vs ks' → ks'.Perm ks → (∀ b o, s.heap.get? b = some o → h'.get? b = some o) → s.heap.objs.size ≤ I →
      (∀ b ∈ fp, b = a ∨ s.heap.objs.size ≤ b) → (∀ A : Around, A.handled = none → Walks prog w A I fp [I] vs.length (fun i v => vs[i]? = some v) St) → St 0 h' → Q (.ref I) { s with heap := h', drawn := d' }) :
    wpAny (model prog w) A (pyIter (.ref a)) Q E s := by
  obtain ⟨es, ep, t, ks', ho, hel, hpd, hpm, hb, hf, hled, hrs⟩ := id hS
  have hlt := hS.lt
  refine wpAny_pyIter_slot hS.typeIs PySem.F.slot_set_iter (wpAny_call_entry PySem.F.slot_set_iter hS.typeIs entry_set_iter ?_ (PySem.F.args_set_iter_1 _))
  unfold Builtin.«frozenset.__iter__»
  refine wpAny_bind (wpAny_pure ?_)
  refine wpAny_bind ?_
  unfold Builtin.Frozenset.sizeOf
  refine wpAny_bind (wpAny_setEntries_of ho rfl hf (wpAny_pure ?_))
  refine wpAny_bind ?_
  unfold setDrawn
  refine wpAny_bind (wpAny_setState_of ho rfl hf ?_)
  dsimp only
  unfold setsByText
  refine wpAny_bind (wpAny_bind (wpAny_askSetting (wpAny_pure ?_)))
  refine wpAny_pure ?_
  show wpAny _ _ (if (!(byTxt w) && (!t.plain && decide (es.size > 1))) = true then _ else _) _ _ _
  have fin : ∀ (s1 : Shared) (first : Value) (d1 : Drawn) (vs : List Value) (fp : List Addr) (St : Nat → Heap → Prop), s1.heap.get? a = some { cls := .type "set", dict := none, data := .set es ep t, slots := #[] } → (∀ b o, s.heap.get? b = some o → s1.heap.get? b = some o) → s1 = { s with heap := s1.heap, drawn := d1 } →
      (∃ ks', Paired (IsV knd) vs ks' ∧ ks'.Perm ks) → (∀ b ∈ fp, b = a ∨ s.heap.objs.size ≤ b) → (∀ A : Around, A.handled = none → Walks prog w A s1.heap.objs.size fp [s1.heap.objs.size] vs.length (fun i v => vs[i]? = some v) St) →
      (∀ h2, SetIt h2 s1.heap.objs.size #[first, .int 0 0, .ref a, .int es.size 0, .int ep 0] → (∀ b o, s1.heap.get? b = some o → h2.get? b = some o) → St 0 h2) → s.heap.objs.size ≤ s1.heap.objs.size →
      wpAny (model prog w) A.in1 (do
        let e ← setEpoch a
        let v ← newFields "set_iterator" [first, rawInt 0, .ref a, rawInt es.size, rawInt e]
        ret v) (fun fin s' => ∃ v, fin = .done (.ret v) ∧ ∃ T' r, s'.TypeIs v T' ∧ typeLookup (.type T') (Str.ofString "__next__") = pure (some r) ∧ Q v s') E s1 := by
    intro s1 first d1 vs fp St h1 h2 h3 h4 h5 h6 h7 h8
    refine wpAny_bind (wpAny_setEpoch_of h1 rfl hf ?_)
    refine wpAny_bind ?_
    unfold newFields
    refine wpAny_newObj_type ?_
    obtain ⟨ks2, h9, h10⟩ := h4
    refine wpAny_pure ⟨_, rfl, "set_iterator", _, ⟨_, Heap.get?_push_size _ rfl, rfl⟩, slot_setit_next.lookup, ?_⟩
    have := h s1.heap.objs.size (s1.heap.push { cls := .type "set_iterator", data := .fields #[first, .int 0 0, .ref a, .int es.size 0, .int ep 0] }) d1 vs ks2 fp St h9 h10 (fun b o e => Heap.get?_push_of_some _ (h2 b o e)) h8 h5 h6
      (h7 _ (Heap.get?_push_size _ rfl) fun b o e => Heap.get?_push_of_some _ e)
    rw [h3]
    exact this
  have e1 : s = { s with heap := s.heap, drawn := s.drawn } := rfl
  have vlen : ∀ {vs : List Value} {l : List (Int × Value)}, vs = l.map (·.2) → l.Perm es.toList → vs.length = es.size := fun e p => by
    rw [e, List.length_map, p.length_eq, Array.length_toList]
  by_cases hd : (!(byTxt w) && (!t.plain && decide (es.size > 1))) = true
  · rw [if_pos hd]
    refine wpAny_bind (wp_drawOrder _ _ _ _ (by simp) fun ps d hps => ?_)
    refine wpAny_bind ?_
    unfold newTuple
    have hln : ps.length = es.size := by rw [hps.length_eq, List.length_range]
    have hz := fits_of_scanBound hb
    refine wpAny_newObj_type ?_ (by show (List.map (fun (i : Nat) => rawInt i) ps).toArray.size ≤ sizeLine; simp [hln]; exact hz)
    have hpe : (ps.map fun p => es.getD p (0, Value.none)).Perm es.toList := by
      have := (hps.map fun p => es.getD p (0, Value.none))
      refine this.trans (.of_eq ?_)
      have h2 := range_getD ((0 : Int), Value.none) es.toList
      rw [Array.length_toList] at h2
      rw [← h2]
      simp [Array.getD_eq_getD_getElem?, List.getD_eq_getElem?_getD]
    refine fin { s with heap := s.heap.push { cls := .type "tuple", data := .seq (List.map (fun (i : Nat) => rawInt i) ps).toArray }, drawn := d } (.ref s.heap.objs.size) d (ps.map fun p => (es.getD p (0, .none)).2)
      [(s.heap.push { cls := .type "tuple", data := .seq (List.map (fun (i : Nat) => rawInt i) ps).toArray }).objs.size, a, s.heap.objs.size] (fun i h => SetIt h (s.heap.push { cls := .type "tuple", data := .seq (List.map (fun (i : Nat) => rawInt i) ps).toArray }).objs.size #[.ref s.heap.objs.size, .int i 0, .ref a, .int es.size 0, .int ep 0] ∧ SetObj h a es ep t ∧ Places h s.heap.objs.size ps)
      (Heap.get?_push_of_some _ ho) (fun b o e => Heap.get?_push_of_some _ e) rfl ?_ ?_ (fun A' hh' => ?_) (fun h2 x k => ⟨x, k a _ (Heap.get?_push_of_some _ ho), k _ _ (Heap.get?_push_size _ rfl)⟩) (by rw [Heap.size_push]; exact Nat.le_succ _)
    · have := pd_vals hel hpd hpe
      rw [List.map_map] at this
      obtain ⟨k2, q1, q2⟩ := this
      exact ⟨k2, q1, q2.trans hpm⟩
    · intro b hb'
      simp only [List.mem_cons, List.not_mem_nil, or_false] at hb'
      rcases hb' with rfl | rfl | rfl
      · right
        rw [Heap.size_push]
        exact Nat.le_succ _
      · exact .inl rfl
      · exact .inr (Nat.le_refl _)
    · have W := walk_drawn (prog := prog) (w := w) (A := A') (a := a) (I := (s.heap.push { cls := .type "tuple", data := .seq (List.map (fun (i : Nat) => rawInt i) ps).toArray }).objs.size) (ep := ep) (tp := s.heap.objs.size) hh'
        (by rw [Heap.size_push]; exact Nat.ne_of_lt (Nat.lt_succ_of_lt hlt)) (by rw [Heap.size_push]; exact Nat.ne_of_lt (Nat.lt_succ_self _)) hf hps
      rw [List.length_map, hln]
      exact W
  · rw [if_neg hd]
    refine wpAny_bind (wpAny_pure ?_)
    have hfp : ∀ b ∈ [s.heap.objs.size, a], b = a ∨ s.heap.objs.size ≤ b := fun b hb' => by
      simp only [List.mem_cons, List.not_mem_nil, or_false] at hb'
      rcases hb' with rfl | rfl
      · exact .inr (Nat.le_refl _)
      · exact .inl rfl
    cases hb' : byTxt w with
    | true =>
      refine fin s (rawInt 0) s.drawn (ltx (w.params.setOrder a ep) es) [s.heap.objs.size, a] (fun i h => (∃ sl : Nat, SetIt h s.heap.objs.size #[.int sl 0, .int i 0, .ref a, .int es.size 0, .int ep 0]) ∧ SetObj h a es ep t)
        ho (fun b o e => e) rfl ?_ hfp (fun A' hh' => ?_) (fun h2 x k => ⟨⟨0, x⟩, k a _ ho⟩) (Nat.le_refl _)
      · obtain ⟨k2, q1, q2⟩ := pd_vals hel hpd (pick_perm (w.params.setOrder a ep) es)
        exact ⟨k2, q1, q2.trans hpm⟩
      · rw [show (ltx (w.params.setOrder a ep) es).length = es.size from vlen rfl (pick_perm (w.params.setOrder a ep) es)]
        exact walk_txt hh' (Nat.ne_of_lt hlt) hf hb'
    | false =>
      rw [hb'] at hd hled
      have hd' : (!t.plain && decide (es.size > 1)) = false := by simpa using hd
      refine fin s (rawInt 0) s.drawn (es.toList.map (·.2)) [s.heap.objs.size, a] (fun i h => (∃ sl : Nat, SlotOk t.place i sl ∧ SetIt h s.heap.objs.size #[.int sl 0, .int i 0, .ref a, .int es.size 0, .int ep 0]) ∧ SetObj h a es ep t)
        ho (fun b o e => e) rfl ?_ hfp (fun A' hh' => ?_) (fun h2 x k => ⟨⟨0, ⟨fun _ => rfl, fun k z => by omega⟩, x⟩, k a _ ho⟩) (Nat.le_refl _)
      · obtain ⟨k2, q1, q2⟩ := pd_vals hel hpd .rfl
        exact ⟨k2, q1, q2.trans hpm⟩
      · rw [vlen rfl .rfl]
        exact walk_led hh' (Nat.ne_of_lt hlt) hf hb' hled hrs hd'
theorem hint_set {r : Addr} {Q : Bool → Shared → Prop} (hT : s.TypeIs (.ref r) "set") (h : Q false s) : wpAny (model prog w) A (Builtin.List.listLengthHint (.ref r)) Q E s := by
  unfold Builtin.List.listLengthHint
  refine wpAny_bind (wpAny_specialOf hT PySem.F.slot_set_len.lookup ?_)
  generalize hid : ("set.__len__" : String) = id0
  wp_delta
  rw [show splitId id0 = some ("set", "__len__") from by subst hid; decide +kernel]
  subst hid
  refine wpAny_bind (wpAny_isInstance (T := "set") (b := true) hT (by rw [isSubtype_type]; kernel_rfl) ?_)
  refine wpAny_ite_split (fun hab => absurd hab (by decide)) (fun _ => ?_)
  refine wpAny_ite_split (fun _ => ?_) (fun hab => absurd (by decide +kernel) hab)
  refine wpAny_bind (wpAny_typeOf hT ?_)
  exact wpAny_pure h
theorem extend_set {R : Result → Shared → Prop} (hh : A.handled = none) (hS0 : SetK knd s.heap a ks) (S : Addr) (hSr : S ≠ a) (res : Value) (c₀ : Nat) (hS : s.heap.get? S = some { cls := .type "list", data := .seq #[] c₀ })
    (hR : ∀ h' tk d acc' c' ks', (∀ b o, b ≠ S → s.heap.get? b = some o → h'.get? b = some o) → h'.get? S = some { cls := .type "list", dict := none, data := .seq acc' c', slots := #[] } → Paired (IsV knd) acc'.toList ks' → ks'.Perm ks → R (.ok (.ret res)) { s with heap := h', toks := tk, drawn := d }) :
    wpAny (model prog w) A.in1 (Builtin.List.listExtendWith (.ref S) (.ref a) res)
      (fun fin s' => match fin with | .done f => R (.ok f) s' | .again c' => c'.quiet = true ∧ codeAny (model prog w) A c' R s') (fun e s' => R (.error e) s') s := by
  have hlen : ks.length ≤ sizeLine := by
    obtain ⟨es, ep, t, ks', ho, hel, hpd, hpm, hb, _⟩ := hS0
    rw [← hpm.length_eq, ← pd_len hpd, Array.length_toList]
    exact fits_of_scanBound hb
  unfold Builtin.List.listExtendWith
  refine wpAny_bind (wpAny_typeOf (T := "set") hS0.typeIs ?_)
  have h1 : Builtin.List.listSameRef (.ref S) (.ref a) = false := by simp [Builtin.List.listSameRef, hSr]
  have h2 : (Value.type "set" == Value.type "list") = false := by decide
  have h3 : (Value.type "set" == Value.type "tuple") = false := by decide
  simp only [h1, h2, h3, Bool.or_false, Bool.false_eq_true, if_false]
  refine wpAny_bind (pyIter_set hS0 fun I h' d' vs ks' fp St hv hp kp hI hfp W st => ?_)
  have hSI : S ≠ I := Nat.ne_of_lt (Nat.lt_of_lt_of_le (Heap.lt_size hS) hI)
  have hSf : S ∉ fp := fun z => by
    rcases hfp S z with q | q
    · exact hSr q
    · exact Nat.lt_irrefl _ (Nat.lt_of_lt_of_le (Heap.lt_size hS) q)
  have hvl : vs.length = ks.length := by rw [pd_len hv, hp.length_eq]
  have key : ∀ (h : Heap) (c₁ tk : Nat), St 0 h → (∀ b o, b ≠ S → s.heap.get? b = some o → h.get? b = some o) →
      h.get? S = some { cls := .type "list", data := .seq #[] c₁ } → codeAny (model prog w) A (.builtin "list.extend.loop" ⟨[.ref S, .ref I, res], []⟩) R { s with heap := h, toks := tk, drawn := d' } := by
    intro h c₁ tk hst hk hS₁
    refine codeAny_extend_loopS (W A.in1 hh).toS (by omega) S hSf res vs.length 0 _ #[] c₁ rfl (Nat.zero_le _) hst hS₁ (ItemsOf.nil _) fun s' acc' c' hm hS' hacc => ?_
    rw [Moved.eq_with hm]
    have hacc' : acc'.toList = vs := by
      refine List.ext_getElem? fun i => ?_
      rw [Array.getElem?_toList]
      rcases Nat.lt_or_ge i acc'.size with q | q
      · rw [Array.getElem?_eq_getElem q, hacc.2 i _ (Array.getElem?_eq_getElem q)]
      · rw [Array.getElem?_eq_none q, List.getElem?_eq_none (by rw [← hacc.1]; exact q)]
    refine hR s'.heap s'.toks d' acc' c' ks' (fun b o hb e => hm.heap b o (fun hmem => ?_) (hk b o hb e)) hS' (hacc' ▸ hv) hp
    rcases List.mem_cons.mp hmem with e' | hmem
    · exact hb e'
    · exact absurd (Heap.lt_size e) (by rw [List.mem_singleton.mp hmem]; exact Nat.not_lt.mpr hI)
  have hS₁ := kp S _ hS
  refine wpAny_bind (wpAny_holding (hint_set (SetK.typeIs (s := { s with heap := h', drawn := d' }) (hS0.at' fun o e => kp _ o e)) ?_))
  refine wpAny_ite_split (fun _ => ?_) (fun _ => wpAny_pure ⟨plainId_quiet PySem.F.plain_extend_loop _, key _ c₀ _ st (fun b o _ e => kp b o e) hS₁⟩)
  refine wpAny_bind (wpAny_rule ?_)
  refine wpAny_bind ?_
  show wpAny _ _ (updateSeq S (·.push .none) >>= fun _ => updateSeq S (·.pop)) _ _ _
  refine wpAny_bind (wpAny_updateSeq hS₁ rfl ?_)
  have hS₂ := Heap.get?_update_self (Obj.mapSeq (·.push Value.none)) hS₁ rfl
  refine wpAny_updateSeq (hz := by seq_fits) hS₂ rfl ?_
  have hS₃ := Heap.get?_update_self (Obj.mapSeq (·.pop)) hS₂ rfl
  refine wpAny_pure ⟨plainId_quiet PySem.F.plain_extend_loop _, key _ _ _ ?_ (fun b o hb e => ?_) hS₃⟩
  · refine (W A.in1 hh).frame 0 _ _ st fun b hb o e => ?_
    have hbS : b ≠ S := fun h => hSf (h ▸ hb)
    exact (Heap.get?_update_other _ _ (Ne.symm hbS)).trans ((Heap.get?_update_other _ _ (Ne.symm hbS)).trans e)
  · exact (Heap.get?_update_other _ _ (Ne.symm hb)).trans ((Heap.get?_update_other _ _ (Ne.symm hb)).trans (kp b o e))
theorem collect_set {R : List Value → Shared → Prop} (hh : A.handled = none) (hS : SetK knd s.heap a ks)
    (h : ∀ (h' : Heap) (tk : Nat) (d : Drawn) (vs : List Value) (ks' : List K), (∀ b o, s.heap.get? b = some o → h'.get? b = some o) → s.heap.objs.size ≤ h'.objs.size → Paired (IsV knd) vs ks' → ks'.Perm ks → R vs { s with heap := h', toks := tk, drawn := d }) :
    wpAny (model prog w) A (collect (.ref a)) R E s := by
  have hlt := hS.lt
  unfold collect
  refine wpAny_bind (wpAny_runValue (codeAny_builtin entry_proto_collect' ?_))
  rw [Around.under_plainId PySem.F.plain_proto_collect _]
  show wpAny _ A.in1 (newList [] >>= fun l => again (.builtin "list.__iadd__" ⟨[l, .ref a], []⟩)) _ _ s
  refine wpAny_bind (wpAny_newObj_type ?_)
  refine wpAny_pure ⟨plainId_quiet PySem.F.plain_list_iadd _, codeAny_builtin entry_list_iadd' ?_⟩
  rw [Around.under_plainId PySem.F.plain_list_iadd _]
  have hS₁ : (s.heap.push { cls := .type "list", data := .seq ([] : List Value).toArray }).get? s.heap.objs.size = some { cls := .type "list", data := .seq #[] } := Heap.get?_push_size _ rfl
  show wpAny _ A.in1 (Builtin.List.listExtendWith (.ref s.heap.objs.size) (.ref a) (.ref s.heap.objs.size)) _ _ _
  have key := extend_set (knd := knd) (A := A) (s := { s with heap := s.heap.push { cls := .type "list", data := .seq ([] : List Value).toArray } }) (ks := ks)
    (R := fun (q : Result) (s' : Shared) => ∃ (h' : Heap) (tk : Nat) (d : Drawn) (acc' : Array Value) (c' : Nat) (ks' : List K), q = .ok (.ret (.ref s.heap.objs.size)) ∧ s' = { s with heap := h', toks := tk, drawn := d } ∧
      (∀ b o, s.heap.get? b = some o → h'.get? b = some o) ∧ h'.get? s.heap.objs.size = some { cls := .type "list", dict := none, data := .seq acc' c', slots := #[] } ∧ Paired (IsV knd) acc'.toList ks' ∧ ks'.Perm ks)
    hh (hS.at' fun o e => Heap.get?_push_of_some _ e) s.heap.objs.size (Nat.ne_of_gt hlt) (.ref s.heap.objs.size) 0 hS₁
    (fun h' tk d acc' c' ks' hk hS' hv hp => ⟨h', tk, d, acc', c', ks', rfl, rfl, fun b o e => hk b o (Nat.ne_of_lt (Heap.lt_size e)) (Heap.get?_push_of_some _ e), hS', hv, hp⟩)
  refine wpAny_mono key (fun fin s' x => ?_) fun e s' x => ?_
  · cases fin with
    | done f =>
      obtain ⟨h', tk, d, acc', c', ks', e, rfl, hk, hS', hv, hp⟩ := x
      cases e
      show wpAny _ A (load s.heap.objs.size >>= _) _ _ _
      refine wpAny_bind (wpAny_load hS' ?_)
      exact wpAny_pure (h h' tk d _ ks' hk (Nat.le_of_lt (Heap.lt_size hS')) hv hp)
    | again c₁ =>
      refine ⟨x.1, codeAny_mono x.2 fun q s₂ y => ?_⟩
      obtain ⟨h', tk, d, acc', c', ks', rfl, rfl, hk, hS', hv, hp⟩ := y
      show wpAny _ A (load s.heap.objs.size >>= _) _ _ _
      refine wpAny_bind (wpAny_load hS' ?_)
      exact wpAny_pure (h h' tk d _ ks' hk (Nat.le_of_lt (Heap.lt_size hS')) hv hp)
  · obtain ⟨_, _, _, _, _, _, e', _⟩ := x
    cases e'
theorem collect_src {R : List Value → Shared → Prop} {T : String} {r d : Addr} {n : Nat} {P : Nat → Value → Prop} {OK : Heap → Prop} (W : PySem.W.KdlSrc prog w T r d n P OK) (hh : A.handled = none) (hok : OK s.heap) (hn : n ≤ sizeLine)
    (h : ∀ (h' : Heap) (tk : Nat) (acc : Array Value), (∀ b o, s.heap.get? b = some o → h'.get? b = some o) → s.heap.objs.size ≤ h'.objs.size → ItemsOf P acc n → R acc.toList { s with heap := h', toks := tk }) :
    wpAny (model prog w) A (collect (.ref r)) R E s := by
  have hlt := W.there _ hok
  unfold collect
  refine wpAny_bind (wpAny_runValue (codeAny_builtin entry_proto_collect' ?_))
  rw [Around.under_plainId PySem.F.plain_proto_collect _]
  show wpAny _ A.in1 (newList [] >>= fun l => again (.builtin "list.__iadd__" ⟨[l, .ref r], []⟩)) _ _ s
  refine wpAny_bind (wpAny_newObj_type ?_)
  refine wpAny_pure ⟨plainId_quiet PySem.F.plain_list_iadd _, codeAny_builtin entry_list_iadd' ?_⟩
  rw [Around.under_plainId PySem.F.plain_list_iadd _]
  have hS₁ : (s.heap.push { cls := .type "list", data := .seq ([] : List Value).toArray }).get? s.heap.objs.size = some { cls := .type "list", data := .seq #[] } := Heap.get?_push_size _ rfl
  show wpAny _ A.in1 (Builtin.List.listExtendWith (.ref s.heap.objs.size) (.ref r) (.ref s.heap.objs.size)) _ _ _
  have key := PySem.W.kdl_extend (A := A) (s := { s with heap := s.heap.push { cls := .type "list", data := .seq ([] : List Value).toArray } })
    (R := fun (q : Result) (s' : Shared) => ∃ (h' : Heap) (tk : Nat) (acc' : Array Value) (c' : Nat), q = .ok (.ret (.ref s.heap.objs.size)) ∧ s' = { s with heap := h', toks := tk } ∧
      (∀ b o, s.heap.get? b = some o → h'.get? b = some o) ∧ h'.get? s.heap.objs.size = some { cls := .type "list", dict := none, data := .seq acc' c', slots := #[] } ∧ ItemsOf P acc' n)
    W hh (W.keep _ _ hok fun b _ o e => Heap.get?_push_of_some _ e) s.heap.objs.size (Nat.ne_of_gt hlt.1) (Nat.ne_of_gt hlt.2) (.ref s.heap.objs.size) 0 hS₁
    (fun h' tk acc' c' hk hS' hacc => ⟨h', tk, acc', c', rfl, rfl, fun b o e => hk b o (Nat.ne_of_lt (Heap.lt_size e)) (Heap.get?_push_of_some _ e), hS', hacc⟩) hn
  refine wpAny_mono key (fun fin s' x => ?_) fun e s' x => ?_
  · cases fin with
    | done f =>
      obtain ⟨h', tk, acc', c', e, rfl, hk, hS', hacc⟩ := x
      cases e
      show wpAny _ A (load s.heap.objs.size >>= _) _ _ _
      refine wpAny_bind (wpAny_load hS' ?_)
      exact wpAny_pure (h h' tk acc' hk (Nat.le_of_lt (Heap.lt_size hS')) hacc)
    | again c₁ =>
      refine ⟨x.1, codeAny_mono x.2 fun q s₂ y => ?_⟩
      obtain ⟨h', tk, acc', c', rfl, rfl, hk, hS', hacc⟩ := y
      show wpAny _ A (load s.heap.objs.size >>= _) _ _ _
      refine wpAny_bind (wpAny_load hS' ?_)
      exact wpAny_pure (h h' tk acc' hk (Nat.le_of_lt (Heap.lt_size hS')) hacc)
  · obtain ⟨_, _, _, _, e', _⟩ := x
    cases e'
end
end D
end
section
set_option linter.all false
set_option Elab.async false
set_option maxRecDepth 100000
set_option autoImplicit false
namespace D
open PySem PySem.Spec PyProof.Rows L2

/-! ### sorting by trees -/
theorem eq_of_perm_pw {α : Type} {r : α → α → Prop} (anti : ∀ a b, r a b → r b a → a = b) : ∀ {l m : List α}, l.Perm m → l.Pairwise r → m.Pairwise r → l = m
  | [], m, p, _, _ => (List.Perm.nil_eq p)
  | a :: l, m, p, h1, h2 => by
    cases m with
    | nil => exact absurd p.length_eq (by simp)
    | cons b m =>
      have hab : a = b := by
        have ha : a ∈ b :: m := p.mem_iff.mp (by simp)
        have hb : b ∈ a :: l := p.mem_iff.mpr (by simp)
        rcases List.mem_cons.mp ha with q | q
        · exact q
        · rcases List.mem_cons.mp hb with z | z
          · exact z.symm
          · exact anti a b ((List.pairwise_cons.mp h1).1 b z) ((List.pairwise_cons.mp h2).1 a q)
      subst hab
      rw [eq_of_perm_pw anti (List.perm_cons a |>.mp p) (List.pairwise_cons.mp h1).2 (List.pairwise_cons.mp h2).2]
theorem insI_perm (x : Int) : ∀ l : List Int, (insI x l).Perm (x :: l)
  | [] => .rfl
  | y :: ys => by
    unfold insI
    split
    · exact .rfl
    · exact ((insI_perm x ys).cons y).trans (.swap _ _ _)
theorem sortI_perm : ∀ l : List Int, (sortI l).Perm l
  | [] => .rfl
  | x :: xs => (insI_perm x _).trans ((sortI_perm xs).cons x)
theorem insI_pw (x : Int) : ∀ {l : List Int}, l.Pairwise (· ≤ ·) → (insI x l).Pairwise (· ≤ ·)
  | [], _ => by simp [insI]
  | y :: ys, h => by
    unfold insI
    have h' := List.pairwise_cons.mp h
    split
    next q => exact List.pairwise_cons.mpr ⟨fun z hz => by
      rcases List.mem_cons.mp hz with rfl | hz
      · exact q
      · exact Int.le_trans q (h'.1 z hz), h⟩
    next q => exact List.pairwise_cons.mpr ⟨fun z hz => by
      rcases List.mem_cons.mp ((insI_perm x ys).mem_iff.mp hz) with rfl | hz
      · omega
      · exact h'.1 z hz, insI_pw x h'.2⟩
theorem sortI_pw : ∀ l : List Int, (sortI l).Pairwise (· ≤ ·)
  | [] => .nil
  | x :: xs => insI_pw x (sortI_pw xs)
theorem sortI_eq {l m : List Int} (p : l.Perm m) (h : l.Pairwise (· ≤ ·)) : l = sortI m := eq_of_perm_pw (fun a b h1 h2 => Int.le_antisymm h1 h2) (p.trans (sortI_perm m).symm) h (sortI_pw m)
theorem sortI_congr {l m : List Int} (p : l.Perm m) : sortI l = sortI m := sortI_eq ((sortI_perm l).trans p) (sortI_pw l)
abbrev sLe (x y : Str) : Prop := strLt y x = false
theorem strLt_eq (x y : Str) : strLt x y = ltCps x.cps.toList y.cps.toList := (ltCps_eq _ _).symm
theorem sLe_of_lt {x y : Str} (h : strLt x y = true) : sLe x y := by
  unfold sLe strLt at *
  simp only [decide_eq_true_eq, decide_eq_false_iff_not] at *
  exact List.lt_asymm h
theorem sLe_trans {x y z : Str} (h1 : sLe x y) (h2 : sLe y z) : sLe x z := by
  unfold sLe strLt at *
  simp only [decide_eq_false_iff_not] at *
  exact List.not_lt.mpr (List.le_trans (List.not_lt.mp h1) (List.not_lt.mp h2))
theorem sLe_anti {x y : Str} (h1 : sLe x y) (h2 : sLe y x) : x = y := by
  unfold sLe strLt at *
  simp only [decide_eq_false_iff_not] at *
  have e : x.cps.toList = y.cps.toList := List.le_antisymm (List.not_lt.mp h1) (List.not_lt.mp h2)
  cases x
  cases y
  simp only [Array.toList_inj] at e
  exact congrArg _ e
theorem sLe_total {x y : Str} (h : ¬ sLe x y) : strLt y x = true := by
  unfold sLe at h
  simpa using h
theorem insS_perm (x : Str) : ∀ l : List Str, (insS x l).Perm (x :: l)
  | [] => .rfl
  | y :: ys => by
    unfold insS
    split
    · exact .rfl
    · exact ((insS_perm x ys).cons y).trans (.swap _ _ _)
theorem sortS_perm : ∀ l : List Str, (sortS l).Perm l
  | [] => .rfl
  | x :: xs => (insS_perm x _).trans ((sortS_perm xs).cons x)
theorem insS_pw (x : Str) : ∀ {l : List Str}, l.Pairwise sLe → (insS x l).Pairwise sLe
  | [], _ => by simp [insS]
  | y :: ys, h => by
    unfold insS
    have h' := List.pairwise_cons.mp h
    split
    next q =>
      have q' : sLe x y := by simpa [sLe] using q
      exact List.pairwise_cons.mpr ⟨fun z hz => by
        rcases List.mem_cons.mp hz with rfl | hz
        · exact q'
        · exact sLe_trans q' (h'.1 z hz), h⟩
    next q =>
      have q' : strLt y x = true := by simpa using q
      exact List.pairwise_cons.mpr ⟨fun z hz => by
        rcases List.mem_cons.mp ((insS_perm x ys).mem_iff.mp hz) with rfl | hz
        · exact sLe_of_lt q'
        · exact h'.1 z hz, insS_pw x h'.2⟩
theorem sortS_pw : ∀ l : List Str, (sortS l).Pairwise sLe
  | [] => .nil
  | x :: xs => insS_pw x (sortS_pw xs)
theorem sortS_eq {l m : List Str} (p : l.Perm m) (h : l.Pairwise sLe) : l = sortS m := eq_of_perm_pw (fun a b h1 h2 => sLe_anti h1 h2) (p.trans (sortS_perm m).symm) h (sortS_pw m)
theorem sortS_congr {l m : List Str} (p : l.Perm m) : sortS l = sortS m := sortS_eq ((sortS_perm l).trans p) (sortS_pw l)
theorem risingS_pw : ∀ (l : List Str) (p : Str), risingS p l = true → (p :: l).Pairwise sLe
  | [], p, _ => by simp
  | x :: r, p, h => by
    simp only [risingS, Bool.and_eq_true, Bool.not_eq_true'] at h
    have ih := risingS_pw r x h.2
    have hpx : sLe p x := by
      unfold sLe
      rw [strLt_eq]
      exact h.1
    refine List.pairwise_cons.mpr ⟨fun z hz => ?_, ih⟩
    rcases List.mem_cons.mp hz with rfl | hz
    · exact hpx
    · exact sLe_trans hpx ((List.pairwise_cons.mp ih).1 z hz)
theorem sortedS_pw {l : List Str} (h : sortedS l = true) : l.Pairwise sLe := by
  cases l with
  | nil => exact .nil
  | cons x r => exact risingS_pw r x h
/-! first met -/
section
variable {K : Type} [DecidableEq K]
theorem addK_mem {ks : List K} {k x : K} : x ∈ addK ks k ↔ x ∈ ks ∨ x = k := by
  unfold addK
  split
  next h =>
    constructor
    · exact .inl
    · rintro (q | rfl)
      · exact q
      · exact h
  next => simp
theorem addK_nodup {ks : List K} {k : K} (h : ks.Nodup) : (addK ks k).Nodup := by
  unfold addK
  split
  · exact h
  next q => exact List.nodup_append.mpr ⟨h, by simp, fun a ha b hb => by simp at hb; subst hb; rintro rfl; exact q ha⟩
theorem foldl_addK : ∀ (ks acc : List K), acc.Nodup → (ks.foldl addK acc).Nodup ∧ ∀ x, x ∈ ks.foldl addK acc ↔ x ∈ acc ∨ x ∈ ks
  | [], acc, h => ⟨h, by simp⟩
  | k :: ks, acc, h => by
    obtain ⟨h1, h2⟩ := foldl_addK ks (addK acc k) (addK_nodup h)
    refine ⟨h1, fun x => ?_⟩
    rw [List.foldl_cons, h2, addK_mem, List.mem_cons, or_assoc]
theorem dedup_mem {x : K} : ∀ {l : List K}, x ∈ dedup l ↔ x ∈ l
  | [] => by simp [dedup]
  | y :: ys => by
    unfold dedup
    simp only [List.mem_cons, List.mem_filter, dedup_mem (l := ys), decide_eq_true_eq, ne_eq]
    by_cases e : x = y <;> simp [e]
theorem dedup_nodup : ∀ (l : List K), (dedup l).Nodup
  | [] => by simp [dedup]
  | y :: ys => by
    unfold dedup
    refine List.nodup_cons.mpr ⟨by simp, (dedup_nodup ys).sublist List.filter_sublist⟩
theorem perm_of_nodup {l m : List K} (h1 : l.Nodup) (h2 : m.Nodup) (h : ∀ x, x ∈ l ↔ x ∈ m) : l.Perm m := (List.perm_ext_iff_of_nodup h1 h2).mpr h
theorem addAll_dedup (ks : List K) : (addAll ks).Perm (dedup ks) := by
  obtain ⟨h1, h2⟩ := foldl_addK ks [] .nil
  exact perm_of_nodup h1 (dedup_nodup ks) fun x => by
    unfold addAll
    rw [h2, dedup_mem]
    simp
theorem addAll_map {J : Type} [DecidableEq J] (f : J → K) (hf : ∀ a b, f a = f b → a = b) (l : List J) : addAll (l.map f) = (addAll l).map f := by
  have key : ∀ (l acc : List J), (l.map f).foldl addK (acc.map f) = (l.foldl addK acc).map f := by
    intro l
    induction l with
    | nil => intro acc; rfl
    | cons x r ih =>
      intro acc
      rw [List.map_cons, List.foldl_cons, List.foldl_cons, ← ih]
      congr 1
      unfold addK
      have : f x ∈ acc.map f ↔ x ∈ acc := by
        rw [List.mem_map]
        exact ⟨fun ⟨a, ha, e⟩ => hf a x e ▸ ha, fun h => ⟨x, h, rfl⟩⟩
      by_cases q : x ∈ acc
      · rw [if_pos q, if_pos (this.mpr q)]
      · rw [if_neg q, if_neg (fun z => q (this.mp z)), List.map_append]
        rfl
  exact key l []
end
end D
end
section
set_option linter.all false
set_option Elab.async false
set_option maxRecDepth 100000
set_option autoImplicit false
namespace D
open PySem PySem.Spec PyProof.Rows L2
section
variable {prog : Program} {w : World} {A : Around} {E : Value → Shared → Prop} {s : Shared}
/-- what is sorted: ints, or texts -/
inductive Srt : List Value → List Value → Prop where
  | ofI {vs out : List Value} {ns : List Int} : IntsAre vs ns → IntsAre out (sortI ns) → Srt vs out
  | ofS {vs out : List Value} {ss : List Str} : StrsAre vs ss → StrsAre out (sortS ss) → Srt vs out
def Sortable (vs : List Value) : Prop := vs.length < 64 ∧ ((∃ ns, IntsAre vs ns) ∨ ∃ ss, StrsAre vs ss)
theorem sortedHeap_at {h : Heap} {a : Addr} {vs : List Value} {n : Nat} {out : Array Value} (ho : h.get? a = some (seqObj "list" vs.toArray n)) :
    (∃ e, (sortedHeap h a vs out).get? a = some (seqObj "list" out e)) ∧ ∀ b o, b ≠ a → h.get? b = some o → (sortedHeap h a vs out).get? b = some o := by
  have hlt := Heap.lt_size ho
  unfold sortedHeap
  refine ⟨?_, fun b o hb e => ?_⟩
  · have h1 := get?_update_seq ho (fun _ => (#[] : Array Value))
    have h2 := Heap.get?_push_of_some (seqObj "tuple" vs.toArray 0) h1
    have h3 := Heap.get?_push_of_some (seqObj "list" #[] 0) h2
    exact ⟨_, get?_update_seq h3 (fun _ => out)⟩
  · rw [Heap.get?_update_other _ _ (Ne.symm hb)]
    exact Heap.get?_push_of_some _ (Heap.get?_push_of_some _ ((Heap.get?_update_other _ _ (Ne.symm hb)).trans e))
theorem sort_tree {a : Addr} {vs : List Value} {n : Nat} {P : Fin → Shared → Prop} (ho : s.heap.get? a = some (seqObj "list" vs.toArray n)) (hs : Sortable vs)
    (h : ∀ out : Array Value, Srt vs out.toList → P (.done (.ret .none)) { s with heap := sortedHeap s.heap a vs out }) : wpAny (model prog w) A (Builtin.«list.sort» ⟨[.ref a], []⟩) P E s := by
  obtain ⟨h64, ⟨ns, hI⟩ | ⟨ss, hS⟩⟩ := hs
  · refine list_sort_tree ho hI h64 fun out ns' a1 a2 a3 => h out (.ofI hI ?_)
    rw [← sortI_eq a2 a3]
    exact a1
  · refine list_sort_treeK strKind_oneLt ho hS.keysOf (fun v₁ v₂ rest e => keyKind_strs (by rw [← e]; exact hS)) h64 fun st' hp hs => ?_
    obtain ⟨ss', h1, h2, h3⟩ := sorted_out_str hS hp hs
    refine h _ (.ofS hS ?_)
    rw [← sortS_eq h2 (sortedS_pw h3)]
    exact h1
theorem sorted_core {r : Addr} {C : List Value → Prop} {Q : Value → Shared → Prop}
    (hcol : ∀ (E' : Value → Shared → Prop) (R : List Value → Shared → Prop), (∀ h' tk d vs, (∀ b o, s.heap.get? b = some o → h'.get? b = some o) → s.heap.objs.size ≤ h'.objs.size → C vs → R vs { s with heap := h', toks := tk, drawn := d }) → wpAny (model prog w) A.in1 (collect (.ref r)) R E' s)
    (hC : ∀ vs, C vs → Sortable vs)
    (h : ∀ h' tk d D e vs out, C vs → Srt vs out → (∀ b o, s.heap.get? b = some o → h'.get? b = some o) → s.heap.objs.size ≤ D → h'.get? D = some (seqObj "list" out.toArray e) → Q (.ref D) { s with heap := h', toks := tk, drawn := d }) :
    wpAny (model prog w) A (call (.builtin "sorted") [.ref r]) Q E s := by
  refine Calls.call_function_entry kind_sorted plain_sorted entry_sorted (args_sorted1 _) ?_
  unfold Builtin.«sorted»
  refine wpAny_bind (m := checkCount "sorted" 1 1 _) (wpAny_pure ?_)
  refine wpAny_bind (hcol _ _ fun h' tk d vs kp hsz c => ?_)
  have hs := hC vs c
  have hz : vs.length ≤ sizeLine := by
    have := hs.1
    rw [sizeLine_eq]
    omega
  refine wpAny_bind (wpAny_newList ?_ hz)
  have hoL : (h'.push (seqObj "list" vs.toArray 0)).get? h'.objs.size = some (seqObj "list" vs.toArray 0) := Heap.get?_push_size _ rfl
  refine wpAny_bind (wpAny_holding (wpAny_call_entry slot_list_sort ⟨_, hoL, rfl⟩ entry_list_sort (sort_tree hoL hs fun out so => ⟨_, rfl, ?_⟩) (args_list_sort _)))
  obtain ⟨⟨e, he⟩, hk⟩ := sortedHeap_at (out := out) hoL
  refine wpAny_pure ⟨_, rfl, ?_⟩
  exact h _ tk d h'.objs.size e vs out.toList c so (fun b o q => hk b o (Nat.ne_of_lt (Heap.lt_size (kp b o q))) (Heap.get?_push_of_some _ (kp b o q))) hsz he
theorem sorted_set {K : Type} [DecidableEq K] {knd : PySem.KeyKind prog w K} {a : Addr} {ks : List K} {Q : Value → Shared → Prop} (hh : A.handled = none) (hS : SetK knd s.heap a ks)
    (hC : ∀ vs ks', Paired (IsV knd) vs ks' → ks'.Perm ks → Sortable vs)
    (h : ∀ h' tk d D e vs out ks', Paired (IsV knd) vs ks' → ks'.Perm ks → Srt vs out → (∀ b o, s.heap.get? b = some o → h'.get? b = some o) → s.heap.objs.size ≤ D → h'.get? D = some (seqObj "list" out.toArray e) → Q (.ref D) { s with heap := h', toks := tk, drawn := d }) :
    wpAny (model prog w) A (call (.builtin "sorted") [.ref a]) Q E s := by
  refine sorted_core (C := fun vs => ∃ ks', Paired (IsV knd) vs ks' ∧ ks'.Perm ks) (fun E' R hR => collect_set hh hS fun h' tk d vs ks' kp hz hv hp => hR h' tk d vs kp hz ⟨ks', hv, hp⟩) (fun vs ⟨ks', hv, hp⟩ => hC vs ks' hv hp) fun h' tk d D e vs out ⟨ks', hv, hp⟩ so kp hD he => h h' tk d D e vs out ks' hv hp so kp hD he
end
/-! ### the layer's rules -/
section
variable {X : Cx} {pins : List (Addr × Obj)} {σ : L2.St} {H : Hp} {s : Shared}
/-- a new object laid, with draws on the way -/
theorem inv_laidD {a : Addr} {o : HO} {t' : Nat} {d' : Drawn} {h' : Heap} (I : Inv X pins σ H s) (k : ∀ b u, s.heap.get? b = some u → h'.get? b = some u) (hp : s.heap.objs.size ≤ a) (new : ObjOk X.prog X.w (upd H a o) h' a o) :
    Inv X pins σ (upd H a o) { s with heap := h', toks := t', drawn := d' } :=
  I.call (ch := []) (g' := s.gens) (Un.laid k hp (I.hok.fresh hp)) (I.hok.laid k hp new) I.bare fun _ z => nomatch z
theorem ints_vals : ∀ {us : List Value} {ns : List Int}, IntsAre us ns → Vals (ns.map V.int) us
  | _, _, .nil => .nil
  | _, _, .cons n t r => .cons ⟨t, rfl⟩ (ints_vals r)
theorem strs_vals : ∀ {us : List Value} {ss : List Str}, StrsAre us ss → Vals (ss.map V.str) us
  | _, _, .nil => .nil
  | _, _, .cons n t r => .cons ⟨t, rfl⟩ (strs_vals r)
theorem vals_keys : ∀ {us : List Value} {ks : List L2.Key}, Vals (ks.map kV) us → Paired (IsV (mixKind X.prog X.w)) us ks
  | [], [], _ => .nil
  | _, .inl i :: ks, .cons r rs => by
    obtain ⟨t, rfl⟩ := r
    exact .cons ⟨mixKind_int _ _ i t, rfl⟩ (vals_keys rs)
  | _, .inr x :: ks, .cons r rs => by
    obtain ⟨t, rfl⟩ := r
    exact .cons ⟨mixKind_str _ _ x t, rfl⟩ (vals_keys rs)
theorem keys_ints : ∀ {us : List Value} {ks : List L2.Key} {ns : List Int}, Paired (IsV (mixKind X.prog X.w)) us ks → ks = ns.map Sum.inl → IntsAre us ns
  | _, _, [], .nil, _ => .nil
  | _, _, n :: ns, .cons a b, e => by
    cases e
    have a1 := a.1
    rw [mixKind_is] at a1
    rcases keyIs_shape a1 with ⟨i, t, e1, rfl⟩ | ⟨x, t, e1, rfl⟩
    · cases e1
      exact .cons _ t (keys_ints b rfl)
    · cases e1
theorem keys_strs : ∀ {us : List Value} {ks : List L2.Key} {ss : List Str}, Paired (IsV (mixKind X.prog X.w)) us ks → ks = ss.map Sum.inr → StrsAre us ss
  | _, _, [], .nil, _ => .nil
  | _, _, n :: ns, .cons a b, e => by
    cases e
    have a1 := a.1
    rw [mixKind_is] at a1
    rcases keyIs_shape a1 with ⟨i, t, e1, rfl⟩ | ⟨x, t, e1, rfl⟩
    · cases e1
    · cases e1
      exact .cons _ t (keys_strs b rfl)
theorem perm_map_inv {α β : Type} (f : α → β) : ∀ {l : List α} {m : List β}, m.Perm (l.map f) → ∃ l' : List α, m = l'.map f ∧ l'.Perm l := by
  intro l m p
  generalize hx : l.map f = lf at p
  induction p generalizing l with
  | nil =>
    rw [List.map_eq_nil_iff] at hx
    subst hx
    exact ⟨[], rfl, .rfl⟩
  | cons x _ ih =>
    cases l with
    | nil => cases hx
    | cons a r =>
      simp only [List.map_cons, List.cons.injEq] at hx
      obtain ⟨l', e, q⟩ := ih hx.2
      exact ⟨a :: l', by rw [List.map_cons, hx.1, e], q.cons a⟩
  | swap x y r =>
    match l, hx with
    | a :: b :: r', hx =>
      simp only [List.map_cons, List.cons.injEq] at hx
      exact ⟨b :: a :: r', by rw [List.map_cons, List.map_cons, hx.1, hx.2.1, hx.2.2], .swap _ _ _⟩
  | trans _ _ i1 i2 =>
    obtain ⟨l1, e1, q1⟩ := i2 hx
    obtain ⟨l2, e2, q2⟩ := i1 e1.symm
    exact ⟨l2, e2, q2.trans q1⟩
def setO (X : Cx) (l : Addr) (ks : List L2.Key) : HO := .ext fun h => SetK (mixKind X.prog X.w) h l ks
theorem call_setL (hc : X.calm = true) : CallR X (.type "set") (fun xs H Q => ∃ p ks, xs = [.ref p] ∧ SqL X.K H p (ks.map kV) ∧ ks.length < 64 ∧ ∀ l, H l = none → Q (.ref l) (upd H l (setO X l (addAll ks)))) := by
  intro pins s σ H xs us Q I r h
  obtain ⟨p, ks, rfl, hq, hz, q⟩ := h
  obtain ⟨u, rfl, rx⟩ := vals1 r
  cases rx
  obtain ⟨its, r', pl, hz'⟩ := I.list hq
  have hlen := r'.length
  rw [List.length_map] at hlen
  refine call_set_k (knd := mixKind X.prog X.w) (ks := ks) (I.ok.hd hc) pl.isList (vals_keys (by simpa using r')) (by simp only [List.size_toArray]; unfold scanBound; omega) fun h' tk hS kp => ?_
  refine ⟨.ref s.heap.objs.size, _, I.laid (t' := tk) (o := setO X s.heap.objs.size (addAll ks)) (fun b o e => kp b o (Heap.lt_size e) e) (Nat.le_refl _) ⟨hS, ?_, fun h1 h2 x k => x.at' k⟩, rfl, q _ (I.hok.fresh (Nat.le_refl _))⟩
  obtain ⟨es, ep, t, ks', ho, _⟩ := hS
  exact ⟨_, ho⟩
/-- what sorted tells of keys -/
def sortK (ks : List L2.Key) (ys : List V) : Prop := (∃ ns : List Int, ks = ns.map Sum.inl ∧ ys = (sortI ns).map V.int) ∨ ∃ ss : List Str, ks = ss.map Sum.inr ∧ ys = (sortS ss).map V.str
theorem srt_keys {vs out : List Value} {ks ks' : List L2.Key} {ys : List V} (hv : Paired (IsV (mixKind X.prog X.w)) vs ks') (hp : ks'.Perm ks) (so : Srt vs out) (hk : sortK ks ys) : Vals ys out := by
  rcases hk with ⟨ns, rfl, rfl⟩ | ⟨ss, rfl, rfl⟩
  · obtain ⟨ns', rfl, hp'⟩ := perm_map_inv Sum.inl hp
    have hI := keys_ints hv rfl
    cases so with
    | ofI a b =>
      rename_i ms
      rw [← sortI_congr hp', show ns' = ms from ?_]
      · exact ints_vals b
      · rw [← IntsAre.numsOf hI, ← IntsAre.numsOf a]
    | ofS a b =>
      cases a with
      | nil =>
        cases hI
        have : ns = [] := List.Perm.eq_nil hp'.symm
        subst this
        exact strs_vals b
      | cons x t _ => cases hI
  · obtain ⟨ss', rfl, hp'⟩ := perm_map_inv Sum.inr hp
    have hS := keys_strs hv rfl
    cases so with
    | ofS a b =>
      rename_i ms
      rw [← sortS_congr hp', show ss' = ms from ?_]
      · exact strs_vals b
      · rw [← StrsAre.strs hS, ← StrsAre.strs a]
    | ofI a b =>
      cases a with
      | nil =>
        cases hS
        have : ss = [] := List.Perm.eq_nil hp'.symm
        subst this
        exact ints_vals b
      | cons x t _ => cases hS
theorem keys_sortable {vs : List Value} {ks ks' : List L2.Key} {ys : List V} (hz : ks.length < 64) (hv : Paired (IsV (mixKind X.prog X.w)) vs ks') (hp : ks'.Perm ks) (hk : sortK ks ys) : Sortable vs := by
  refine ⟨by rw [pd_len hv, hp.length_eq]; exact hz, ?_⟩
  rcases hk with ⟨ns, rfl, _⟩ | ⟨ss, rfl, _⟩
  · obtain ⟨ns', rfl, _⟩ := perm_map_inv Sum.inl hp
    exact .inl ⟨_, keys_ints hv rfl⟩
  · obtain ⟨ss', rfl, _⟩ := perm_map_inv Sum.inr hp
    exact .inr ⟨_, keys_strs hv rfl⟩
theorem sortK_len {ks : List L2.Key} {ys : List V} (h : sortK ks ys) : ys.length = ks.length := by
  rcases h with ⟨ns, rfl, rfl⟩ | ⟨ss, rfl, rfl⟩
  · simp [(sortI_perm ns).length_eq]
  · simp [(sortS_perm ss).length_eq]
theorem call_sortedS (hc : X.calm = true) : CallR X (.builtin "sorted") (fun xs H Q => ∃ p ks ys, xs = [.ref p] ∧ H p = some (setO X p ks) ∧ ks.length < 64 ∧ sortK ks ys ∧ ∀ l, H l = none → Q (.ref l) (upd H l (.lst ys))) := by
  intro pins s σ H xs us Q I r h
  obtain ⟨p, ks, ys, rfl, hq, hz, hk, q⟩ := h
  obtain ⟨u, rfl, rx⟩ := vals1 r
  cases rx
  have hS : SetK (mixKind X.prog X.w) s.heap p ks := (I.hok p _ hq).1
  refine sorted_set (I.ok.hd hc) hS (fun vs ks' hv hp => keys_sortable hz hv hp hk) fun h' tk d D e vs out ks' hv hp so kp hD he => ?_
  exact ⟨.ref D, _, inv_laidD I (o := .lst ys) kp hD ⟨by rw [sortK_len hk, sizeLine_eq]; omega, out, e, srt_keys hv hp so hk, he⟩, rfl, q _ (I.hok.fresh hD)⟩
theorem items_keys {kvs : List (L2.Key × Value)} {acc : Array Value} (h : ItemsOf (fun i v => ∃ k x, kvs[i]? = some (k, x) ∧ (mixKind X.prog X.w).is k v = true) acc kvs.length) : Paired (IsV (mixKind X.prog X.w)) acc.toList (kvs.map (·.1)) := by
  obtain ⟨h1, h2⟩ := h
  have h2' : ∀ (j : Nat) v, acc.toList[j]? = some v → ∃ k x, kvs[j]? = some (k, x) ∧ (mixKind X.prog X.w).is k v = true := fun j v e => h2 j v (by rw [← Array.getElem?_toList]; exact e)
  rw [← Array.length_toList] at h1
  generalize acc.toList = l at *
  clear h2
  induction l generalizing kvs with
  | nil =>
    cases kvs with
    | nil => exact .nil
    | cons a r => simp at h1
  | cons v l ih =>
    cases kvs with
    | nil => simp at h1
    | cons a r =>
      obtain ⟨k, x, e1, e2⟩ := h2' 0 v rfl
      simp at e1
      subst e1
      refine .cons ⟨e2, ?_⟩ (ih (kvs := r) (by simpa using h1) fun j v e => h2' (j + 1) v (by simpa using e))
      rcases keyIs_shape e2 with ⟨i, t, _, rfl⟩ | ⟨x, t, _, rfl⟩ <;> rfl
theorem kv_keys : ∀ {kvs : List (L2.Key × V)} {vs : List (L2.Key × Value)}, KV kvs vs → kvs.map (·.1) = vs.map (·.1)
  | _, _, .nil => rfl
  | _, _, .cons a b => by simp [a.1, kv_keys b]
theorem call_sortedD (hc : X.calm = true) : CallR X (.builtin "sorted") (fun xs H Q => ∃ p kvs ys, xs = [.ref p] ∧ H p = some (.dK kvs) ∧ kvs.length < 64 ∧ sortK (kvs.map (·.1)) ys ∧ ∀ l, H l = none → Q (.ref l) (upd H l (.lst ys))) := by
  intro pins s σ H xs us Q I r h
  obtain ⟨p, kvs, ys, rfl, hq, hz, hk, q⟩ := h
  obtain ⟨u, rfl, rx⟩ := vals1 r
  cases rx
  obtain ⟨hz', hsm, vs, hkv, hd⟩ := I.hok p _ hq
  obtain ⟨ep, hat⟩ := hd.dictAt
  have hl : vs.length = kvs.length := (Paired.length hkv).symm
  have hke := kv_keys hkv
  refine sorted_core (C := fun us => Paired (IsV (mixKind X.prog X.w)) us (kvs.map (·.1))) (fun E' R hR => collect_src (PySem.W.kdl_dict hsm) (I.ok.hd hc) hat (by rw [hl, sizeLine_eq]; omega) fun h' tk acc kp hz hacc => hR h' tk s.drawn acc.toList kp hz (by rw [hke]; exact items_keys hacc))
    (fun us hu => keys_sortable (by rw [List.length_map]; exact hz) hu .rfl hk) fun h' tk d D e us out hu so kp hD he => ?_
  exact ⟨.ref D, _, inv_laidD I (o := .lst ys) kp hD ⟨by rw [sortK_len hk, List.length_map, sizeLine_eq]; omega, out, e, srt_keys hu .rfl so hk, he⟩, rfl, q _ (I.hok.fresh hD)⟩
theorem call_sortedL (hc : X.calm = true) : CallR X (.builtin "sorted") (fun xs H Q => ∃ p ks ys, xs = [.ref p] ∧ SqL X.K H p (ks.map kV) ∧ ks.length < 64 ∧ sortK ks ys ∧ ∀ l, H l = none → Q (.ref l) (upd H l (.lst ys))) := by
  intro pins s σ H xs us Q I r h
  obtain ⟨p, ks, ys, rfl, hq, hz, hk, q⟩ := h
  obtain ⟨u, rfl, rx⟩ := vals1 r
  cases rx
  obtain ⟨its, r', pl, hz'⟩ := I.list hq
  have hlen := r'.length
  rw [List.length_map] at hlen
  have hit : Paired (IsV (mixKind X.prog X.w)) its ks := vals_keys (by simpa using r')
  refine sorted_core (C := fun us => us = its) (fun E' R hR => collect_list pl.isList (hR _ s.toks s.drawn its (fun b o e => ?_) ?_ rfl) (by rw [sizeLine_eq]; omega)) (fun us hu => by subst hu; exact keys_sortable hz hit .rfl hk) fun h' tk d D e us out hu so kp hD he => ?_
  · exact (Heap.get?_update_other _ _ (Nat.ne_of_gt (Heap.lt_size e))).trans (Heap.get?_push_of_some _ e)
  · rw [Heap.size_update, Heap.size_push]
    exact Nat.le_succ _
  · subst hu
    exact ⟨.ref D, _, inv_laidD I (o := .lst ys) kp hD ⟨by rw [sortK_len hk, sizeLine_eq]; omega, out, e, srt_keys hit .rfl so hk, he⟩, rfl, q _ (I.hok.fresh hD)⟩
end
end D
end
section
set_option linter.all false
set_option Elab.async false
set_option maxRecDepth 100000
set_option autoImplicit false
namespace D
open PySem PySem.Spec PyProof.Rows L2

/-! ### sorted, by trees -/
theorem intsOf_eq : ∀ {ts : List T} {ns : List Int}, intsOf ts = some ns → ts = ns.map .int
  | [], ns, e => by
    cases e
    rfl
  | t :: ts, ns, e => by
    unfold intsOf at e
    split at e
    · rename_i h
      cases h
    · rename_i h
      cases h
      simp only [Option.map_eq_some_iff] at e
      obtain ⟨r, e1, rfl⟩ := e
      rw [intsOf_eq e1]
      rfl
    · cases e
theorem strsOf_eq : ∀ {ts : List T} {ss : List Str}, strsOf ts = some ss → ts = ss.map .str
  | [], ns, e => by
    cases e
    rfl
  | t :: ts, ns, e => by
    unfold strsOf at e
    split at e
    · rename_i h
      cases h
    · rename_i h
      cases h
      simp only [Option.map_eq_some_iff] at e
      obtain ⟨r, e1, rfl⟩ := e
      rw [strsOf_eq e1]
      rfl
    · cases e
section
variable {K : PySem.W.Frag} {F : Addr → Prop} {H : Hp}
theorem repL_ints : ∀ (ns : List Int), RepL K F H (ns.map .int) (ns.map V.int)
  | [] => RepL.nil
  | n :: ns => RepL.cons (by simp [Rep]) (repL_ints ns)
theorem repL_strs : ∀ (ns : List Str), RepL K F H (ns.map .str) (ns.map V.str)
  | [] => RepL.nil
  | n :: ns => RepL.cons (by simp [Rep]) (repL_strs ns)
theorem repL_intsE : ∀ {ns : List Int} {vs : List V}, RepL K F H (ns.map .int) vs → vs = ns.map V.int
  | [], vs, h => by simpa [RepL] using h
  | n :: ns, vs, h => by
    simp only [List.map_cons, RepL, Rep] at h
    obtain ⟨v, r, rfl, rfl, z⟩ := h
    rw [repL_intsE z]
    rfl
theorem repL_strsE : ∀ {ns : List Str} {vs : List V}, RepL K F H (ns.map .str) vs → vs = ns.map V.str
  | [], vs, h => by simpa [RepL] using h
  | n :: ns, vs, h => by
    simp only [List.map_cons, RepL, Rep] at h
    obtain ⟨v, r, rfl, rfl, z⟩ := h
    rw [repL_strsE z]
    rfl
end
/-- sorted(set(..)) of a list -/
def oSortedSetL : List T → Option T
  | [.list xs] => if xs.length < 64 then
      match intsOf xs with
      | some ns => some (.list ((sortI (dedup ns)).map .int))
      | none => (strsOf xs).map fun ss => .list ((sortS (dedup ss)).map .str)
    else none
  | _ => none
section
variable {X : Cx} {a e : Expr} {es : List Expr} {f : Fe} {fs : List Fe} {p p2 pos pos2 : Pos}
theorem keys_of {K : PySem.W.Frag} {F : Addr → Prop} {H : Hp} {xs : List T} {vs : List V} (h : RepL K F H xs vs) (hz : (∃ ns, intsOf xs = some ns) ∨ ∃ ss, strsOf xs = some ss) : ∃ ks : List L2.Key, vs = ks.map kV ∧ ks.length = xs.length := by
  rcases hz with ⟨ns, e⟩ | ⟨ss, e⟩
  · have := intsOf_eq e
    subst this
    rw [repL_intsE h]
    exact ⟨ns.map .inl, by simp [kV, Function.comp_def], by simp⟩
  · have := strsOf_eq e
    subst this
    rw [repL_strsE h]
    exact ⟨ss.map .inr, by simp [kV, Function.comp_def], by simp⟩
theorem q_sortedSet (hc : X.calm = true) (hs : X.mg "sorted" = none) (ht : X.mg "set" = none) (ha : PEr X a f) (hg : Gl X "sorted" := by rfl) (hg2 : Gl X "set" := by rfl)
    (he : starEach [a] X.env = (false, eval a X.env) :: starEach [] X.env := by rfl) (he2 : starEach [.Call (.Name "set" p2) [a] [] pos2] X.env = (false, eval (.Call (.Name "set" p2) [a] [] pos2) X.env) :: starEach [] X.env := by rfl)
    (hpl : (backTo pos (starEach [] X.env)).any (·.1) = false := by rfl) (hpl2 : (backTo pos2 (starEach [] X.env)).any (·.1) = false := by rfl) :
    PEv X (.Call (.Name "sorted" p) [.Call (.Name "set" p2) [a] [] pos2] [] pos) (opN oSortedSetL [f]) :=
  PE_imp (pe_callB (call_sortedS hc) hg hs (by decide +kernel) (pa_cons (pe_callTy (call_setL hc) hg2 ht (by decide +kernel) (a_consR ha a_nilR he) (he := he) (hpl := hpl2)) pa_nil he2) (he := he2) (hpl := hpl)) fun σ H Q ⟨F₀, H₀, O, F, ε, t, r, e, k⟩ => by
  simp only [opN, args, Option.bind_eq_some_iff, Option.map_eq_some_iff] at e
  obtain ⟨ts, ⟨t0, e0, us, eu, rfl⟩, e⟩ := e
  cases eu
  refine ⟨F₀, H₀, O, F, ε, [t0], r, by simp [args, e0], fun vs F1 H1 x1 q1 => ?_⟩
  cases q1 with
  | cons q1 q2 =>
    cases q2
    unfold oSortedSetL at e
    split at e
    next xs hx =>
      cases hx
      split at e
      next hz =>
        obtain ⟨l0, vs, rfl, hl, hr⟩ := q1.lst
        have fin : ∀ (ks : List L2.Key) (ys : List V) (rs : List T), vs = ks.map kV → ks.length < 64 → sortK (addAll ks) ys → (∀ F' H', RepL X.K F' H' rs ys) → t = .list rs →
            ∃ p ks, [V.ref l0] = [V.ref p] ∧ SqL X.K H1 p (ks.map kV) ∧ ks.length < 64 ∧ ∀ l, H1 l = none → tNil σ (upd H1 l (setO X l (addAll ks))) fun xs H2 => ∃ p ks ys, (V.ref l :: xs) = [.ref p] ∧ H2 p = some (setO X p ks) ∧ ks.length < 64 ∧ sortK ks ys ∧ ∀ l, H2 l = none → Q (.ref l) (upd H2 l (.lst ys)) := by
          intro ks ys rs ev hk hs' hrs et
          subst ev
          subst et
          refine ⟨l0, ks, rfl, .inl hl, hk, fun l hl1 => ⟨l, addAll ks, ys, rfl, upd_same, ?_, hs', fun l2 hl2 => ?_⟩⟩
          · have := foldl_addK_len ks []
            simp only [List.length_nil] at this
            unfold addAll
            omega
          · have x2 := Ext.laid (o := setO X l (addAll ks)) x1.dom hl1
            have x3 := Ext.laidF (o := .lst ys) x2.dom hl2
            refine k _ _ _ ((x1.trans x2).trans x3) ?_
            simp only [Rep]
            exact ⟨l2, ys, rfl, .inr rfl, .inl upd_same, hrs _ _⟩
        split at e
        next ns hn =>
          have hxs := intsOf_eq hn
          subst hxs
          cases e
          refine fin (ns.map .inl) ((sortI (dedup ns)).map V.int) _ (by rw [repL_intsE hr]; simp [kV, Function.comp_def]) (by simpa using hz) (.inl ⟨addAll ns, addAll_map Sum.inl (fun _ _ h => Sum.inl.inj h) ns, by rw [sortI_congr (addAll_dedup ns)]⟩) (fun _ _ => repL_ints _) rfl
        next hn =>
          simp only [Option.map_eq_some_iff] at e
          obtain ⟨ss, hss, e⟩ := e
          have hxs := strsOf_eq hss
          subst hxs
          refine fin (ss.map .inr) ((sortS (dedup ss)).map V.str) _ (by rw [repL_strsE hr]; simp [kV, Function.comp_def]) (by simpa using hz) (.inr ⟨addAll ss, addAll_map Sum.inr (fun _ _ h => Sum.inr.inj h) ss, by rw [sortS_congr (addAll_dedup ss)]⟩) (fun _ _ => repL_strs _) e.symm
      next => cases e
    next => cases e
theorem repD_keys {K : PySem.W.Frag} {F : Addr → Prop} {H : Hp} : ∀ {kvs : List (D.Key × T)} {vs : List (D.Key × V)}, RepD K F H kvs vs → kvs.map (·.1) = vs.map (·.1)
  | [], vs, h => by
    have : vs = [] := h
    subst this
    rfl
  | p :: r, vs, h => by
    obtain ⟨v, w, rfl, _, z⟩ := h
    simp [repD_keys z]
theorem keyT_ints : ∀ {ks : List D.Key} {ns : List Int}, ks.map keyT = ns.map .int → ks = ns.map Sum.inl
  | [], [], _ => rfl
  | [], n :: ns, e => by cases e
  | k :: ks, [], e => by cases e
  | k :: ks, n :: ns, e => by
    simp only [List.map_cons, List.cons.injEq] at e ⊢
    refine ⟨?_, keyT_ints e.2⟩
    cases k with
    | inl i =>
      have := e.1
      simp only [keyT] at this
      cases this
      rfl
    | inr x =>
      have := e.1
      simp only [keyT] at this
      cases this
theorem q_dSorted (i : Nat) {x : Str} {px : Pos} (hc : X.calm = true) (hs : X.mg "sorted" = none) (hN : X.N[i]? = some x := by rfl) (hv : Vis X.env.scope x := by first | exact Or.inl rfl | exact Or.inr (Or.inl rfl) | exact Or.inr (Or.inr rfl))
    (hd : (x == ("__debug__" : Str)) = false := by decide) (hcd : (x == ("__classdict__" : Str)) = false := by decide) (hg : Gl X "sorted" := by rfl)
    (he : starEach [.Name x px] X.env = (false, eval (.Name x px) X.env) :: starEach [] X.env := by rfl) (hpl : (backTo pos (starEach [] X.env)).any (·.1) = false := by rfl) :
    PEv X (.Call (.Name "sorted" p) [.Name x px] [] pos) (dSorted i) :=
  PE_imp (pe_callB (call_sortedD hc) hg hs (by decide +kernel) (pa_cons (pv i hN hv hd hcd) pa_nil he) (he := he) (hpl := hpl)) fun σ H Q ⟨F₀, H₀, O, F, ε, t, r, e, k⟩ => by
  simp only [dSorted, Option.bind_eq_some_iff] at e
  obtain ⟨kvs, ed, e⟩ := e
  split at e
  next hz =>
    simp only [Option.map_eq_some_iff] at e
    obtain ⟨ns, en, rfl⟩ := e
    obtain ⟨q, vs, h1, n, o, hh, hr⟩ := dic_val r ed
    refine ⟨_, h1, q, vs, (sortI ns).map V.int, rfl, hh, by rw [← hr.length]; exact hz, .inl ⟨ns, ?_, rfl⟩, fun l hl => ?_⟩
    · rw [← repD_keys hr]
      have := intsOf_eq en
      refine keyT_ints ?_
      rw [← this, List.map_map]
      rfl
    · have x1 := Ext.laidF (o := .lst ((sortI ns).map V.int)) r.dom hl
      refine k _ _ _ x1 ?_
      simp only [Rep]
      exact ⟨l, _, rfl, .inr rfl, .inl upd_same, repL_ints _⟩
  next => cases e
theorem q_sorted (hc : X.calm = true) (hm : X.mg "sorted" = none) (ha : PAr X (e :: es) fs) (hg : Gl X "sorted" := by rfl) (he : starEach (e :: es) X.env = (false, eval e X.env) :: starEach es X.env := by rfl) (hpl : (backTo pos (starEach es X.env)).any (·.1) = false := by rfl) :
    PEv X (.Call (.Name "sorted" p) (e :: es) [] pos) (opN oSorted fs) := PE_imp (pe_callB (call_sortedL hc) hg hm (by decide +kernel) ha (he := he) (hpl := hpl)) (opN_imp (by
  intro O F H ts t vs Q d q e k
  unfold oSorted at e
  split at e
  next xs =>
    split at e
    next hz =>
      cases q with
      | cons q1 q2 =>
        cases q2
        obtain ⟨l0, ws, rfl, hl, hr⟩ := q1.lst
        have fin : ∀ (ks : List L2.Key) (ys : List V) (rs : List T), ws = ks.map kV → ks.length < 64 → sortK ks ys → (∀ F' H', RepL X.K F' H' rs ys) → t = .list rs →
            ∃ p ks ys, [V.ref l0] = [V.ref p] ∧ SqL X.K H p (ks.map kV) ∧ ks.length < 64 ∧ sortK ks ys ∧ ∀ l, H l = none → Q (.ref l) (upd H l (.lst ys)) := by
          intro ks ys rs ev hk hs' hrs et
          subst ev
          subst et
          refine ⟨l0, ks, ys, rfl, .inl hl, hk, hs', fun l hl1 => k _ _ _ (Ext.laidF (o := .lst ys) d hl1) ?_⟩
          simp only [Rep]
          exact ⟨l, ys, rfl, .inr rfl, .inl upd_same, hrs _ _⟩
        split at e
        next ns hn =>
          have hxs := intsOf_eq hn
          subst hxs
          cases e
          exact fin (ns.map .inl) ((sortI ns).map V.int) _ (by rw [repL_intsE hr]; simp [kV, Function.comp_def]) (by simpa using hz) (.inl ⟨ns, rfl, rfl⟩) (fun _ _ => repL_ints _) rfl
        next hn =>
          simp only [Option.map_eq_some_iff] at e
          obtain ⟨ss, hss, e⟩ := e
          have hxs := strsOf_eq hss
          subst hxs
          exact fin (ss.map .inr) ((sortS ss).map V.str) _ (by rw [repL_strsE hr]; simp [kV, Function.comp_def]) (by simpa using hz) (.inr ⟨ss, rfl, rfl⟩) (fun _ _ => repL_strs _) e.symm
    next => cases e
  next => cases e))
end

/-! ### t[::-1] -/
section
variable {prog : Program} {w : World} {A : Around} {E : Value → Shared → Prop} {s : Shared}
theorem places_rev (n : Nat) : Builtin.Slice.slicePlaces ((n : Int) - 1) (-1) (-1) = n := by
  unfold Builtin.Slice.slicePlaces
  rw [if_neg (by decide)]
  by_cases h : (n : Int) - 1 > -1
  · rw [if_pos h]
    rw [show (- -1 : Int) = 1 by decide, Int.ediv_one]
    omega
  · rw [if_neg h]
    omega
theorem pick_rev (xs : Array Value) : ((List.range xs.size).filterMap fun (k : Nat) => xs[((xs.size : Int) - 1 + (k : Int) * (-1)).toNat]?).toArray = xs.toList.reverse.toArray := by
  have h1 : (fun (k : Nat) => xs[((xs.size : Int) - 1 + (k : Int) * (-1)).toNat]?) = fun k => xs[(fun k => xs.size - 1 - k) k]? := by
    funext k
    have : ((xs.size : Int) - 1 + (k : Int) * (-1)).toNat = xs.size - 1 - k := by omega
    rw [this]
  rw [h1]
  have h2 := List.filterMap_map (f := fun k => xs.size - 1 - k) (g := fun i => xs[i]?) (l := List.range xs.size)
  have h3 : (fun k => xs[(fun k => xs.size - 1 - k) k]?) = (fun i => xs[i]?) ∘ fun k => xs.size - 1 - k := rfl
  rw [h3, ← h2, PySem.W.krv_range, List.filterMap_reverse, PySem.W.krv_all]
theorem getItem_tuple_rev {t sl : Addr} {items : Array Value} {u : Tok} {Q : Value → Shared → Prop} (ht : IsTup s.heap t items) (hs : s.heap.IsSliceOf sl .none .none (.int (-1) u))
    (h : Q (.ref s.heap.objs.size) { s with heap := s.heap.push { cls := .type "tuple", data := .seq items.toList.reverse.toArray } })
    (hsz : items.size ≤ sizeLine) : wpAny (model prog w) A (getItem (.ref t) (.ref sl)) Q E s := by
  have htake : sizeOk (.seq items.toList.reverse.toArray) := by
    show items.toList.reverse.toArray.size ≤ sizeLine
    simpa using hsz
  obtain ⟨os, hos, hcs, hds⟩ := id hs
  have hTs : s.TypeIs (.ref sl) "slice" := ⟨os, hos, hcs⟩
  unfold getItem
  try with_reducible refine wpAny_holding ?_
  first | refine wpAny_bind (wpAny_pure ?_) | skip
  refine wpAny_bind (wpAny_sequenceKey ht.typeIs (by decide) ?_)
  refine wpAny_bind (wpAny_callSpecial?_slot (name := Str.ofString "__getitem__") ht.typeIs PyProof.Rows.slot_tuple_getitem
    (wpAny_call_entry PyProof.Rows.slot_tuple_getitem ht.typeIs entry_tuple_getitem ?_ (args_tuple_getitem _ _)))
  show wpAny _ _ (Builtin.Tuple.tupleItemsOf (.ref t) >>= _) _ _ s
  refine wpAny_bind (tupleItemsOf_ ht ?_)
  refine wpAny_bind (wpAny_typeOf hTs ?_)
  rw [if_pos (by decide)]
  refine wpAny_bind ?_
  unfold Builtin.Slice.sliceApplied Builtin.Slice.sliceFields
  refine wpAny_bind (wpAny_bind (wpAny_field hos hds (x := .none) rfl (wpAny_bind (wpAny_field hos hds (x := .none) rfl (wpAny_bind (wpAny_field hos hds (x := .int (-1) u) rfl (wpAny_pure ?_)))))))
  refine wpAny_bind (slicePart_int ?_)
  show wpAny _ _ (if ((-1 : Int) == 0) = true then _ else _) _ _ s
  rw [if_neg (by decide)]
  refine wpAny_bind (slicePart_none (wpAny_bind (slicePart_none (wpAny_bind (wpAny_pure ?_)))))
  show wpAny _ _ (pure (((items.size : Int) - 1), (-1 : Int), Builtin.Slice.slicePlaces ((items.size : Int) - 1) (-1) (-1))) _ _ s
  rw [places_rev]
  refine wpAny_pure ?_
  show wpAny _ _ (if (((items.size : Int) - 1) == 0 && (-1 : Int) == 1 && items.size == items.size) = true then _ else _) _ _ s
  rw [if_neg (by simp), pick_rev]
  first
    | exact wpAny_bind (m := Builtin.Tuple.tupleExact _) (wpAny_newObj_type (wpAny_pure ⟨_, rfl, wpAny_pure h⟩) htake)
    | exact wpAny_bind (m := Builtin.Tuple.tupleExact _) (wpAny_newObj_type (wpAny_bind (wpAny_pure (wpAny_pure ⟨_, rfl, wpAny_pure h⟩))) htake)
    | exact wpAny_bind (wpAny_bind (m := Builtin.Tuple.tupleExact _) (wpAny_newObj_type (wpAny_pure (wpAny_pure ⟨_, rfl, wpAny_pure h⟩)) htake))
    | exact wpAny_bind (wpAny_bind (m := Builtin.Tuple.tupleExact _) (wpAny_newObj_type (wpAny_pure ⟨_, rfl, wpAny_pure h⟩) htake))
end
def oRevT : T → Option T
  | .tuple xs => some (.tuple xs.reverse)
  | _ => none
theorem pd_reverse {α β : Type} {R : α → β → Prop} : ∀ {l : List α} {ks : List β}, Paired R l ks → Paired R l.reverse ks.reverse
  | _, _, .nil => .nil
  | _, _, .cons a b => by
    rw [List.reverse_cons, List.reverse_cons]
    exact pd_append (pd_reverse b) (.cons a .nil)
theorem repL_reverse {K : PySem.W.Frag} {F : Addr → Prop} {H : Hp} : ∀ {ts : List T} {vs : List V}, RepL K F H ts vs → RepL K F H ts.reverse vs.reverse
  | [], vs, h => by
    simp only [RepL] at h
    subst h
    exact RepL.nil
  | t :: ts, vs, h => by
    simp only [RepL] at h
    obtain ⟨v, z, rfl, q, y⟩ := h
    rw [List.reverse_cons, List.reverse_cons]
    exact (repL_reverse y).append (RepL.cons q RepL.nil)
section
variable {X : Cx} {e st : Expr} {te : TE} {f : Fe} {pos p2 : Pos}
def tRev (K : PySem.W.Frag) (te : TE) : TE := fun σ H Q => te σ H fun x H1 => ∃ a xs, x = .ref a ∧ SqT K H1 a xs ∧ ∀ p, H1 p = none → Q (.ref p) (upd H1 p (.tup xs.reverse))
theorem pe_rev (he : PE X e te) (hst : PE X st (tC (.int (-1)))) : PE X (.Subscript e (.Slice none none (some st) p2) pos) (tRev X.K te) := by
  intro pins s σ H Q I h
  refine Subscript_ (thn (he pins s σ H _ I h) fun v s1 ⟨x, H1, I1, r1, q1⟩ => ?_)
  obtain ⟨a, xs, rfl, hx, q⟩ := q1
  cases r1
  refine wpAny_Slice ?_
  rw [evalPart_none]
  refine wpAny_pure (wpAny_pure ?_)
  rw [evalPart_some]
  refine thn (hst pins s1 σ H1 (fun y H2 => y = .int (-1) ∧ H2 = H1) I1 ⟨rfl, rfl⟩) fun vk s3 ⟨y, H3, I3, pk, ey, eh⟩ => ?_
  subst ey
  subst eh
  obtain ⟨tk, rfl⟩ := pk
  have I4 : Inv X pins σ H3 { s3 with heap := s3.heap.push { cls := .type "slice", data := .fields #[.none, .none, .int (-1) tk] } } := I3.kept (t' := s3.toks) fun b ob q => Heap.get?_push_of_some _ q
  obtain ⟨its, r, ht, hz⟩ := I4.tuple hx
  have hlen : its.toArray.size = xs.length := by rw [List.size_toArray]; exact r.length.symm
  show wpAny (model X.prog X.w) X.A (subscriptTail e (.Slice none none (some st) p2) (.ref a) (.ref s3.heap.objs.size)) (EP X pins σ Q) X.xe { s3 with heap := s3.heap.push { cls := .type "slice", data := .fields #[.none, .none, .int (-1) tk] } }
  refine tail_any (ops := [.ref a, .ref s3.heap.objs.size]) ht.typeIs PyProof.Rows.slot_tuple_getitem.lookup ?_ (by with_unfolding_all rfl)
  refine getItem_tuple_rev ht (Heap.IsSliceOf.new ..) ?_ (by rw [hlen]; exact hz)
  refine ⟨.ref _, _, I4.laid (t' := s3.toks) (o := .tup xs.reverse) (fun b ob q => Heap.get?_push_of_some _ q) (Nat.le_refl _) ⟨by simpa using hz, its.reverse, pd_reverse r, ?_⟩, rfl, q _ (I4.hok.fresh (Nat.le_refl _))⟩
  exact IsTup.new _ _
theorem q_rev (ha : PEr X e f) (hst : PE X st (tC (.int (-1)))) : PEv X (.Subscript e (.Slice none none (some st) p2) pos) (op1 oRevT f) := PE_imp (pe_rev ha hst) fun σ H Q ⟨F₀, H₀, O, F, ε, t, r, e, k⟩ => by
  simp only [op1, Option.bind_eq_some_iff] at e
  obtain ⟨x, ex, e⟩ := e
  unfold oRevT at e
  split at e
  · cases e
    refine ⟨F₀, H₀, O, F, ε, _, r, ex, fun v F1 H1 x1 rx => ?_⟩
    obtain ⟨a, vs, rfl, hs, hr⟩ := rx.tup
    refine ⟨a, vs, rfl, hs, fun p hp => ?_⟩
    have x2 := Ext.laid (o := .tup vs.reverse) x1.dom hp
    refine k _ F1 _ (x1.trans x2) ?_
    simp only [Rep]
    exact ⟨p, _, rfl, SqT.of upd_same, (repL_reverse hr).ext x2⟩
  · cases e
theorem neg1 {j : Nat} {p1 p0 : Pos} : PE X (.UnaryOp .USub (.Constant (.int 1) j p1) p0) (tC (.int (-1))) := PE_imp (pe_un un_neg pe_int) fun σ H Q h => ⟨1, rfl, h⟩
end
end D
end
section
set_option linter.all false
set_option Elab.async false
set_option maxRecDepth 100000
set_option autoImplicit false
namespace D
open PySem PySem.Spec PyProof.Rows L2
section
variable {prog : Program} {w : World} {K : Type} [DecidableEq K] {knd : PySem.KeyKind prog w K} {A : Around} {E : Value → Shared → Prop} {s : Shared}
set_option maxHeartbeats 3200000 in
theorem call_set_kT {l : Addr} {items : Array Value} {ks : List K} {Q : Value → Shared → Prop}
    (hh : A.handled = none) (hl : s.heap.IsTuple l items) (hi : Paired (IsV knd) items.toList ks) (hb : items.size + 1 < scanBound)
    (h : ∀ (h' : Heap) (tk : Nat), SetK knd h' s.heap.objs.size (addAll ks) → (∀ b o, b < s.heap.objs.size → s.heap.get? b = some o → h'.get? b = some o) → Q (.ref s.heap.objs.size) { s with heap := h', toks := tk }) :
    wpAny (model prog w) A (call (.type "set") [.ref l]) Q E s := by
  obtain ⟨c, tl, hmro⟩ := PySem.F.called_set.mro
  have hmade := PySem.F.called_set.made
  have hsub := PySem.F.called_set.sub
  refine wpAny_call (codeAny_of_tree ?_)
  show wpAny _ _ (callAny (.type "set") _) _ _ _
  refine wpAny_pure ⟨Code.quiet_builtin _ (by decide +kernel), codeAny_builtin PySem.F.entry_type_call ?_⟩
  rw [Around.under_plain (weight_type_call_type "set" [.ref l] []) rfl]
  have h1 := PySem.F.called_set.notType
  have h2 := PySem.F.called_set.canCreate
  have hct := PySem.F.typeCall_set_1 (.ref l)
  repeat (any_goals (first | assumption | wp_step))
  refine codeAny_mono (code_newSet (.ref l) (E := E) (Q₁ := fun obj s₁ => obj = .ref s.heap.objs.size ∧ s₁ = { s with heap := s.heap.push { cls := .type "set", dict := none, data := .set #[] 0 (.fresh 0 0 (!byTxt w)) } }) ⟨rfl, rfl⟩) fun r s₁ hr => ?_
  cases r with
  | error e => exact hr
  | ok fl =>
    cases fl with
    | ret obj =>
      obtain ⟨rfl, rfl⟩ := hr
      have hS : (s.heap.push { cls := .type "set", dict := none, data := .set #[] 0 (.fresh 0 0 (!byTxt w)) }).get? s.heap.objs.size = some { cls := .type "set", dict := none, data := .set #[] 0 (.fresh 0 0 (!byTxt w)) } := Heap.get?_push_size _ rfl
      have hT : Shared.TypeIs { s with heap := s.heap.push { cls := .type "set", dict := none, data := .set #[] 0 (.fresh 0 0 (!byTxt w)) } } (.ref s.heap.objs.size) "set" := ⟨_, hS, rfl⟩
      have hli := PySem.F.called_set.init.lookup
      have hbi := PySem.F.called_set.init.bind (.ref s.heap.objs.size)
      repeat (any_goals (first | assumption | wp_step))
      refine codeAny_mono (codeAny_call_builtin (R := wants (fun r s₂ => r = .none ∧ ∃ h' tk, s₂ = { s with heap := h', toks := tk } ∧ SetK knd h' s.heap.objs.size (addAll ks) ∧
          (∀ b o, b < s.heap.objs.size → s.heap.get? b = some o → h'.get? b = some o)) E) PySem.F.called_set.init.plain PySem.F.entry_set_init (check_set_init_1 hT ?_)) fun r₂ s₂ hr₂ => ?_
      · obtain ⟨ol, hol, hcl, nl, hdl⟩ := hl
        obtain ⟨ocls, odict, odata, oslots⟩ := ol
        simp only at hcl hdl
        subst hcl
        subst hdl
        have hol' : (s.heap.push { cls := .type "set", dict := none, data := .set #[] 0 (.fresh 0 0 (!byTxt w)) }).get? l = some { cls := .type "tuple", dict := odict, data := .seq items nl, slots := oslots } := Heap.get?_push_of_some _ hol
        have hsls := PySem.F.sub_tuple_set
        have hslf := PySem.F.sub_tuple_frozenset
        have hne : (Value.type "tuple" == Value.type "dict") = false := by decide
        have hl1 : (s.heap.push { cls := .type "set", dict := none, data := .set #[] 0 (.fresh 0 0 (!byTxt w)) }).IsTuple l items := ⟨_, hol', rfl, nl, rfl⟩
        unfold Builtin.«set.__init__» noKeywords Builtin.Frozenset.updateFrom
        generalize hPI : pyIter = PI
        wp_walk
        subst hPI
        refine wpAny_pyIter_tuple hl1 ?_
        refine wpAny_bind (wpAny_runValue ?_)
        have hlS : l < s.heap.objs.size := Heap.lt_size hol
        have hh3 : A.in1.in1.in1.handled = none := by simp [hh]
        have hneI : l ≠ (s.heap.push { cls := .type "set", dict := none, data := .set #[] 0 (.fresh 0 0 (!byTxt w)) }).objs.size := by
          rw [Heap.size_push]
          exact Nat.ne_of_lt (Nat.lt_succ_of_lt hlS)
        have hSf : s.heap.objs.size ∉ [(s.heap.push { cls := .type "set", dict := none, data := .set #[] 0 (.fresh 0 0 (!byTxt w)) }).objs.size, l] := by
          rw [Heap.size_push]
          simp only [List.mem_cons, List.mem_singleton, List.not_mem_nil, or_false, not_or]
          exact ⟨Nat.ne_of_lt (Nat.lt_succ_self _), Nat.ne_of_gt hlS⟩
        refine setLoop_k (knd := knd) ((Walks.tuple hh3 _ l hneI items).toS) s.heap.objs.size hSf hi hb (items.size - 0) 0 _ (by omega) (Nat.zero_le _)
          ⟨⟨_, Heap.get?_push_size _ rfl, rfl, rfl⟩, (hl1.push _)⟩ ?hS0 ?hR
        case hS0 =>
          refine SetK.at' (fresh_k (knd := knd) (h := s.heap)) fun o e => Heap.get?_push_of_some _ e
        case hR =>
          intro s' hm hS'
          obtain ⟨h', g', d', tk', os'⟩ := s'
          have eg : g' = s.gens := hm.gens
          have ed : d' = s.drawn := hm.drawn
          have eo : os' = s.os := hm.os
          subst eg
          subst ed
          subst eo
          show wpAny _ _ _ _ _ _
          refine wpAny_pure ?_
          show wpAny _ _ (ret Value.none) _ _ _
          refine wpAny_pure ⟨rfl, h', tk', rfl, hS', fun b o hb e => ?_⟩
          have hb1 : b ≠ s.heap.objs.size := Nat.ne_of_lt hb
          have hb2 : b ≠ (s.heap.push { cls := .type "set", dict := none, data := .set #[] 0 (.fresh 0 0 (!byTxt w)) }).objs.size := by
            rw [Heap.size_push]
            exact Nat.ne_of_lt (Nat.lt_succ_of_lt hb)
          exact hm.heap b o (by simp only [List.mem_cons, List.mem_singleton, List.not_mem_nil, or_false, not_or]; exact ⟨hb1, hb2⟩) (Heap.get?_push_of_some _ (Heap.get?_push_of_some _ e))
      · cases r₂ with
        | error e => exact hr₂
        | ok fl₂ =>
          cases fl₂ with
          | ret r =>
            obtain ⟨rfl, h', tk, rfl, hS', hk'⟩ := hr₂
            repeat (any_goals (first | assumption | wp_step))
            exact h _ _ hS' hk'
          | _ => exact hr₂.elim
    | _ => exact hr.elim
end
end D
end
section
set_option linter.all false
set_option Elab.async false
set_option maxRecDepth 100000
set_option autoImplicit false
namespace D
open PySem PySem.Spec PyProof.Rows L2
section
variable {X : Cx} {a b e : Expr} {es rest : List Expr} {f g : Fe} {fs : List Fe} {p p2 pos pos2 : Pos}
/-! ### and, or, not of truths, as values -/
theorem q_and1 {op : BoolOp} (h : PEv X a f) : PEv X (.BoolOp op [a] pos) f := pe_one h
theorem q_or1 {op : BoolOp} (h : PEv X a f) : PEv X (.BoolOp op [a] pos) f := pe_one h
theorem q_and (ha : PEv X a f) (hb : PEv X (.BoolOp .And (b :: rest) pos) g) : PEv X (.BoolOp .And (a :: b :: rest) pos) (andV f g) := PE_imp (pe_and ha hb) fun σ H Q ⟨F₀, H₀, O, F, ε, t, r, e, k⟩ => by
  simp only [andV, Option.bind_eq_some_iff] at e
  obtain ⟨x, ex, e⟩ := e
  refine ⟨F₀, H₀, O, F, ε, x, r, ex, fun v F1 H1 x1 rx => ?_⟩
  split at e
  · simp only [Rep] at rx
    refine ⟨true, rx, ?_⟩
    rw [if_pos rfl]
    exact ⟨F₀, H₀, O, F1, ε, t, r.ext x1, e, fun v F' H' x2 q => k v F' H' (x1.trans x2) q⟩
  · cases e
    simp only [Rep] at rx
    refine ⟨false, rx, ?_⟩
    rw [if_neg (by decide)]
    exact k _ F1 H1 x1 (by simp [Rep])
  · cases e
theorem q_or (ha : PEv X a f) (hb : PEv X (.BoolOp .Or (b :: rest) pos) g) : PEv X (.BoolOp .Or (a :: b :: rest) pos) (orV f g) := PE_imp (pe_or ha hb) fun σ H Q ⟨F₀, H₀, O, F, ε, t, r, e, k⟩ => by
  simp only [orV, Option.bind_eq_some_iff] at e
  obtain ⟨x, ex, e⟩ := e
  refine ⟨F₀, H₀, O, F, ε, x, r, ex, fun v F1 H1 x1 rx => ?_⟩
  split at e
  · simp only [Rep] at rx
    refine ⟨false, rx, ?_⟩
    rw [if_neg (by decide)]
    exact ⟨F₀, H₀, O, F1, ε, t, r.ext x1, e, fun v F' H' x2 q => k v F' H' (x1.trans x2) q⟩
  · cases e
    simp only [Rep] at rx
    refine ⟨true, rx, ?_⟩
    rw [if_pos rfl]
    exact k _ F1 H1 x1 (by simp [Rep])
  · cases e
theorem q_not (ha : PEv X a f) : PEv X (.UnaryOp .Not a pos) (notV f) := PE_imp (pe_not ha) fun σ H Q ⟨F₀, H₀, O, F, ε, t, r, e, k⟩ => by
  simp only [notV, Option.bind_eq_some_iff] at e
  obtain ⟨x, ex, e⟩ := e
  refine ⟨F₀, H₀, O, F, ε, x, r, ex, fun v F1 H1 x1 rx => ?_⟩
  split at e
  · cases e
    simp only [Rep] at rx
    exact ⟨_, rx, k _ F1 H1 x1 (by simp [Rep])⟩
  · cases e
/-! ### list(x) -/
theorem q_list (hm : X.mg "list" = none) (ha : PAr X (e :: es) fs) (hg : Gl X "list" := by rfl) (he : starEach (e :: es) X.env = (false, eval e X.env) :: starEach es X.env := by rfl) (hpl : (backTo pos (starEach es X.env)).any (·.1) = false := by rfl) :
    PEv X (.Call (.Name "list" p) (e :: es) [] pos) (opN oList fs) := PE_imp (pe_callTy call_list_of hg hm (by decide +kernel) ha (he := he) (hpl := hpl)) (opN_imp (by
  intro O F H ts t vs Q d q e k
  unfold oList at e
  split at e
  · cases e
    cases q with
    | cons q1 q2 =>
      cases q2
      obtain ⟨l0, ws, rfl, hl, hr⟩ := q1.tup
      refine ⟨l0, ws, rfl, .inr hl, fun l hl1 => ?_⟩
      have x1 := Ext.laidF (o := .lst ws) d hl1
      refine k _ _ _ x1 ?_
      simp only [Rep]
      exact ⟨l, ws, rfl, .inr rfl, .inl upd_same, hr.ext x1⟩
  · cases e
    cases q with
    | cons q1 q2 =>
      cases q2
      obtain ⟨l0, ws, rfl, hl, hr⟩ := q1.lst
      refine ⟨l0, ws, rfl, .inl (.inl hl), fun l hl1 => ?_⟩
      have x1 := Ext.laidF (o := .lst ws) d hl1
      refine k _ _ _ x1 ?_
      simp only [Rep]
      exact ⟨l, ws, rfl, .inr rfl, .inl upd_same, hr.ext x1⟩
  · cases e))
/-! ### slices -/
def tOt (K : PySem.W.Frag) (f : Ev → Option (Option Int)) : TO := fun σ H Q => ∃ F₀ H₀ O F ε i, RelE K F₀ H₀ O F H ε σ ∧ f ε = some i ∧ ∀ F' H', Ext F H F' H' → Q i H'
theorem PO_imp {x : Option Expr} {t t' : TO} (h : PO X x t) (k : ∀ σ H Q, t' σ H Q → t σ H Q) : PO X x t' := fun pins s σ H Q I q => h pins s σ H Q I (k σ H Q q)
theorem o_none : PO X none (tOt X.K optN) := PO_imp po_none fun σ H Q ⟨F₀, H₀, O, F, ε, i, r, e, k⟩ => by
  cases e
  exact k F H (Ext.refl r.dom)
theorem o_some (h : PEr X a f) : PO X (some a) (tOt X.K (opt f)) := PO_imp (po_some h) fun σ H Q ⟨F₀, H₀, O, F, ε, i, r, e, k⟩ => by
  simp only [opt, Option.bind_eq_some_iff] at e
  obtain ⟨x, ex, e⟩ := e
  refine ⟨F₀, H₀, O, F, ε, x, r, ex, fun v F1 H1 x1 rx => ?_⟩
  split at e
  · cases e
    exact ⟨_, rx.int, k F1 H1 x1⟩
  · cases e
def rSlW (K : PySem.W.Frag) : V → Option Int → Option Int → Hp → VK → Prop := fun x lo hi H Q => ∃ a xs, x = .ref a ∧ SqT K H a xs ∧ (HT.sIx xs.length 0 lo = 0 ∧ HT.sIx xs.length xs.length hi = xs.length) ∧ Q (.ref a) H
theorem getItem_tuple_whole {prog : Program} {w : World} {A : Around} {E : Value → Shared → Prop} {s : Shared} {t sl : Addr} {items : Array Value} {vl vu : Value} {lo hi : Option Int} {Q : Value → Shared → Prop} (ht : IsTup s.heap t items) (hs : s.heap.IsSliceOf sl vl vu .none) (pl : IsPart vl lo) (pu : IsPart vu hi)
    (hw : HT.sIx items.size 0 lo = 0 ∧ HT.sIx items.size items.size hi = items.size) (h : Q (.ref t) s) : wpAny (model prog w) A (getItem (.ref t) (.ref sl)) Q E s := by
  obtain ⟨os, hos, hcs, hds⟩ := id hs
  have hTs : s.TypeIs (.ref sl) "slice" := ⟨os, hos, hcs⟩
  unfold getItem
  try with_reducible refine wpAny_holding ?_
  first | refine wpAny_bind (wpAny_pure ?_) | skip
  refine wpAny_bind (wpAny_sequenceKey ht.typeIs (by decide) ?_)
  refine wpAny_bind (wpAny_callSpecial?_slot (name := Str.ofString "__getitem__") ht.typeIs PyProof.Rows.slot_tuple_getitem
    (wpAny_call_entry PyProof.Rows.slot_tuple_getitem ht.typeIs entry_tuple_getitem ?_ (args_tuple_getitem _ _)))
  show wpAny _ _ (Builtin.Tuple.tupleItemsOf (.ref t) >>= _) _ _ s
  refine wpAny_bind (tupleItemsOf_ ht ?_)
  refine wpAny_bind (wpAny_typeOf hTs ?_)
  rw [if_pos (by decide)]
  refine wpAny_bind (HT.sliceApplied_gen hs pl pu ?_)
  rw [hw.1, hw.2]
  show wpAny _ _ (if (((0 : Nat) : Int) == 0 && (1 : Int) == 1 && (items.size - 0) == items.size) = true then _ else _) _ _ s
  rw [if_pos (by simp)]
  unfold Builtin.Tuple.tupleIsExact
  refine wpAny_bind (wpAny_bind (wpAny_typeOf ht.typeIs (wpAny_pure ?_)))
  rw [if_pos (by decide)]
  refine wpAny_bind (wpAny_rule ?_)
  exact wpAny_pure ⟨_, rfl, wpAny_pure h⟩
theorem sl_whole : SlR X (rSlW X.K) := by
  intro pins s σ H x v vl vu lo hi sl Q I rx hs pl pu h
  obtain ⟨a, xs, rfl, hx, hw, q⟩ := h
  cases rx
  obtain ⟨its, r, ht, hz⟩ := I.tuple hx
  have hlen : its.toArray.size = xs.length := by rw [List.size_toArray]; exact r.length.symm
  refine ⟨"tuple", _, PyProof.Rows.slot_tuple_getitem.lookup, ht.typeIs, ?_⟩
  exact getItem_tuple_whole ht hs pl pu (by rw [hlen]; exact hw) ⟨.ref a, H, I, rfl, q⟩
theorem sIx_eq (n d : Nat) (o : Option Int) : D.sIx n d o = HT.sIx n d o := by
  cases o with
  | none => rfl
  | some v =>
    unfold D.sIx HT.sIx
    dsimp only
    split <;> omega
theorem repL_cut {K : PySem.W.Frag} {F : Addr → Prop} {H : Hp} {ts : List T} {vs : List V} (h : RepL K F H ts vs) (lo hi : Option Int) : RepL K F H (cutZ ts lo hi) (cutV vs lo hi) := by
  unfold cutZ cutV
  simp only [sIx_eq, h.length]
  exact (h.drop _).take _
theorem q_slice {lo hi : Option Expr} {fl fh : Ev → Option (Option Int)} (ha : PEr X e f) (hl : PO X lo (tOt X.K fl)) (hu : PO X hi (tOt X.K fh)) : PEv X (.Subscript e (.Slice lo hi none p2) pos) (slice f fl fh) := PE_imp (pe_slice ((sl_tup.or sl_whole).or sl_list) ha hl hu) fun σ H Q ⟨F₀, H₀, O, F, ε, t, r, e, k⟩ => by
  simp only [slice, Option.bind_eq_some_iff] at e
  obtain ⟨x, ex, l, el, h, eh, e⟩ := e
  refine ⟨F₀, H₀, O, F, ε, x, r, ex, fun v F1 H1 x1 rx => ⟨F₀, H₀, O, F1, ε, l, r.ext x1, el, fun F2 H2 x2 => ⟨F₀, H₀, O, F2, ε, h, (r.ext x1).ext x2, eh, fun F3 H3 x3 => ?_⟩⟩⟩
  have x23 := x2.trans x3
  have x13 := x1.trans x23
  unfold oSl at e
  split at e
  · cases e
    obtain ⟨a, vs, rfl, hs, hr⟩ := (rx.ext x23).tup
    by_cases hw : HT.sIx vs.length 0 l = 0 ∧ HT.sIx vs.length vs.length h = vs.length
    · refine .inl (.inr ⟨a, vs, rfl, hs, hw, k _ F3 H3 x13 ?_⟩)
      simp only [Rep]
      refine ⟨a, vs, rfl, hs, ?_⟩
      have := repL_cut hr l h
      unfold cutV at this
      rw [hw.1, hw.2, List.drop_zero, Nat.sub_zero, List.take_length] at this
      exact this
    · refine .inl (.inl ⟨a, vs, rfl, hs, hw, fun q hq => ?_⟩)
      have x4 := Ext.laid (o := .tup (cutV vs l h)) x13.dom hq
      refine k _ F3 _ (x13.trans x4) ?_
      simp only [Rep]
      exact ⟨q, _, rfl, SqT.of upd_same, (repL_cut hr l h).ext x4⟩
  · cases e
    obtain ⟨a, vs, rfl, hs, hr⟩ := (rx.ext x23).lst
    refine .inr ⟨a, vs, rfl, .inl hs, fun q hq => ?_⟩
    have x4 := Ext.laidF (o := .lst (cutV vs l h)) x13.dom hq
    refine k _ _ _ (x13.trans x4) ?_
    simp only [Rep]
    exact ⟨q, _, rfl, .inr rfl, .inl upd_same, (repL_cut hr l h).ext x4⟩
  · cases e
/-! ### sum of a tuple of ints -/
def oSumT : List T → Option T
  | [.tuple xs] => (intsOf xs).bind fun ns => if ns.length ≤ 1000 ∧ ∀ n ∈ ns, -1000000000000 ≤ n ∧ n ≤ 1000000000000 then some (.int ns.sum) else none
  | _ => none
theorem preSum_eq : ∀ (ns : List Int) (k : Nat), k ≤ ns.length → preSum (fun i => ns.getD i 0) k = (ns.take k).sum
  | ns, 0, _ => by simp [preSum]
  | ns, k + 1, h => by
    have ih := preSum_eq ns k (by omega)
    rw [preSum, ih, List.take_succ_eq_append_getElem (by omega : k < ns.length), List.sum_append]
    simp [List.getD_eq_getElem?_getD, show k < ns.length by omega]
theorem sum_bd {B : Int} (hB : 0 ≤ B) : ∀ (ns : List Int), (∀ n ∈ ns, -B ≤ n ∧ n ≤ B) → -(B * ns.length) ≤ ns.sum ∧ ns.sum ≤ B * ns.length
  | [], _ => by simp
  | n :: ns, h => by
    have h1 := h n (by simp)
    have h2 := sum_bd hB ns fun m hm => h m (by simp [hm])
    simp only [List.sum_cons, List.length_cons, Int.natCast_add, Int.mul_add]
    omega
theorem call_sumT (hc : X.calm = true) : CallR X (.builtin "sum") (fun xs H Q => ∃ (p : Addr) (ns : List Int), xs = [.ref p] ∧ SqT X.K H p (ns.map V.int) ∧ ns.length ≤ 1000 ∧ (∀ n ∈ ns, -1000000000000 ≤ n ∧ n ≤ 1000000000000) ∧ Q (.int ns.sum) H) := by
  intro pins s σ H xs us Q I r h
  obtain ⟨p, ns, rfl, hq, hl, hb, q⟩ := h
  obtain ⟨u, rfl, rx⟩ := vals1 r
  cases rx
  obtain ⟨its, r', pl, hz⟩ := I.tuple hq
  have hI : IntsAre its ns := intsAre_of r'
  have hlen : its.length = ns.length := hI.length
  have hlt : p < s.heap.objs.size := by obtain ⟨o, ho, _⟩ := pl; exact Heap.lt_size ho
  refine PySem.call_sum_walk (wpAny_pyIter_tuple (items := its.toArray) pl ?_)
  refine ⟨_, [s.heap.objs.size, p], [s.heap.objs.size], _, _, _, (fun i => ns.getD i 0), rfl, Walks.tuple (A := X.A.in1) (I.ok.hd hc) _ p (Nat.ne_of_lt hlt) its.toArray, ⟨⟨_, Heap.get?_push_size _ rfl, rfl, rfl⟩, pl.push _⟩, fun b hb => ?_, fun i v e => ?_, fun j hj => ?_, fun h' tk t' hk => ?_⟩
  · rw [Heap.size_push]
    simp only [List.mem_cons, List.not_mem_nil, or_false] at hb
    rcases hb with rfl | rfl
    · exact Nat.lt_succ_self _
    · exact Nat.lt_succ_of_lt hlt
  · exact hI.int_at i v (by simpa using e)
  · have hj' : j < ns.length := by simpa [hlen] using hj
    have m1 := hb ns[j] (List.getElem_mem hj')
    have e1 : ns.getD j 0 = ns[j] := by simp [List.getD_eq_getElem?_getD, hj']
    rw [preSum_eq ns (j + 1) (by omega)]
    have m2 := sum_bd (B := 1000000000000) (by decide) (ns.take (j + 1)) fun n hn => hb n (List.mem_of_mem_take hn)
    rw [List.length_take] at m2
    have : ((min (j + 1) ns.length : Nat) : Int) ≤ 1000 := by omega
    show InLong _ ∧ InLong _
    unfold InLong
    dsimp only
    rw [e1]
    constructor <;> constructor <;> omega
  · have e : its.toArray.size = ns.length := by simp [hlen]
    rw [e, preSum_eq ns ns.length (Nat.le_refl _), List.take_length]
    exact ⟨.int ns.sum, H, I.kept (t' := tk) fun b o e => hk b o (by simp only [List.mem_singleton]; exact Nat.ne_of_lt (Heap.lt_size e)) (Heap.get?_push_of_some _ e), ⟨t', rfl⟩, q⟩
theorem q_sumT (hc : X.calm = true) (hm : X.mg "sum" = none) (ha : PAr X (e :: es) fs) (hg : Gl X "sum" := by rfl) (he : starEach (e :: es) X.env = (false, eval e X.env) :: starEach es X.env := by rfl) (hpl : (backTo pos (starEach es X.env)).any (·.1) = false := by rfl) :
    PEv X (.Call (.Name "sum" p) (e :: es) [] pos) (opN oSumT fs) := PE_imp (pe_callB (call_sumT hc) hg hm (by decide +kernel) ha (he := he) (hpl := hpl)) (opN_imp (by
  intro O F H ts t vs Q d q e k
  unfold oSumT at e
  split at e
  · simp only [Option.bind_eq_some_iff] at e
    obtain ⟨ns, en, e⟩ := e
    split at e
    next hz =>
      cases e
      have := intsOf_eq en
      subst this
      cases q with
      | cons q1 q2 =>
        cases q2
        obtain ⟨l0, ws, rfl, hl, hr⟩ := q1.tup
        have := repL_intsE hr
        subst this
        exact ⟨l0, ns, rfl, hl, hz.1, hz.2, k _ F H (Ext.refl d) (by simp [Rep])⟩
    next => cases e
  · cases e))
end
/-! ### sorted(set(..)), len(set(..)) of lists and of tuples -/
def oSortedSetA : List T → Option T
  | [.list xs] => oSortedSetL [.list xs]
  | [.tuple xs] => oSortedSetL [.list xs]
  | _ => none
def oLenSetA : List T → Option T
  | [.list xs] => if xs.length < 64 then (intsOf xs).map fun ns => .int (dedup ns).length else none
  | [.tuple xs] => if xs.length < 64 then (intsOf xs).map fun ns => .int (dedup ns).length else none
  | _ => none
section
variable {X : Cx} {a e : Expr} {f : Fe} {p p2 pos pos2 : Pos}
theorem call_setT (hc : X.calm = true) : CallR X (.type "set") (fun xs H Q => ∃ p ks, xs = [.ref p] ∧ SqT X.K H p (ks.map kV) ∧ ks.length < 64 ∧ ∀ l, H l = none → Q (.ref l) (upd H l (setO X l (addAll ks)))) := by
  intro pins s σ H xs us Q I r h
  obtain ⟨p, ks, rfl, hq, hz, q⟩ := h
  obtain ⟨u, rfl, rx⟩ := vals1 r
  cases rx
  obtain ⟨its, r', pl, hz'⟩ := I.tuple hq
  have hlen := r'.length
  rw [List.length_map] at hlen
  refine call_set_kT (knd := mixKind X.prog X.w) (ks := ks) (I.ok.hd hc) pl (vals_keys (by simpa using r')) (by simp only [List.size_toArray]; unfold scanBound; omega) fun h' tk hS kp => ?_
  refine ⟨.ref s.heap.objs.size, _, I.laid (t' := tk) (o := setO X s.heap.objs.size (addAll ks)) (fun b o e => kp b o (Heap.lt_size e) e) (Nat.le_refl _) ⟨hS, ?_, fun h1 h2 x k => x.at' k⟩, rfl, q _ (I.hok.fresh (Nat.le_refl _))⟩
  obtain ⟨es, ep, t, ks', ho, _⟩ := hS
  exact ⟨_, ho⟩
/-- what set(..) is, by trees -/
theorem set_of (hc : X.calm = true) (ht : X.mg "set" = none) (ha : PEr X a f) (hg2 : Gl X "set") (he : starEach [a] X.env = (false, eval a X.env) :: starEach [] X.env) (hpl2 : (backTo pos2 (starEach [] X.env)).any (·.1) = false) :
    PE X (.Call (.Name "set" p2) [a] [] pos2) (fun σ H Q => ∃ F₀ H₀ O F ε xs, RelE X.K F₀ H₀ O F H ε σ ∧ (f ε = some (.list xs) ∨ f ε = some (.tuple xs)) ∧ xs.length < 64 ∧
      ((∃ ns, intsOf xs = some ns ∧ ∀ l F' H', Ext F H F' H' → H' l = some (setO X l (addAll (ns.map .inl))) → Q (.ref l) H') ∨ ∃ ss, strsOf xs = some ss ∧ ∀ l F' H', Ext F H F' H' → H' l = some (setO X l (addAll (ss.map .inr))) → Q (.ref l) H')) :=
  PE_imp (pe_callTy (CallR_or (call_setL hc) (call_setT hc)) hg2 ht (by decide +kernel) (a_consR ha a_nilR he) (he := he) (hpl := hpl2)) fun σ H Q ⟨F₀, H₀, O, F, ε, xs, r, e, hz, h⟩ => by
  rcases e with e | e
  · refine ⟨F₀, H₀, O, F, ε, [.list xs], r, by simp [args, e], fun vs F1 H1 x1 q1 => .inl ?_⟩
    cases q1 with
    | cons q1 q2 =>
      cases q2
      obtain ⟨l0, vs, rfl, hl, hr⟩ := q1.lst
      rcases h with ⟨ns, hn, h⟩ | ⟨ss, hn, h⟩
      · have := intsOf_eq hn
        subst this
        rw [repL_intsE hr] at hl
        exact ⟨l0, ns.map .inl, rfl, by simpa [kV, Function.comp_def] using SqL.of' hl, by simpa using hz, fun l hl1 => h l F1 _ (x1.trans (Ext.laid x1.dom hl1)) upd_same⟩
      · have := strsOf_eq hn
        subst this
        rw [repL_strsE hr] at hl
        exact ⟨l0, ss.map .inr, rfl, by simpa [kV, Function.comp_def] using SqL.of' hl, by simpa using hz, fun l hl1 => h l F1 _ (x1.trans (Ext.laid x1.dom hl1)) upd_same⟩
  · refine ⟨F₀, H₀, O, F, ε, [.tuple xs], r, by simp [args, e], fun vs F1 H1 x1 q1 => .inr ?_⟩
    cases q1 with
    | cons q1 q2 =>
      cases q2
      obtain ⟨l0, vs, rfl, hl, hr⟩ := q1.tup
      rcases h with ⟨ns, hn, h⟩ | ⟨ss, hn, h⟩
      · have := intsOf_eq hn
        subst this
        rw [repL_intsE hr] at hl
        exact ⟨l0, ns.map .inl, rfl, by simpa [kV, Function.comp_def] using hl, by simpa using hz, fun l hl1 => h l F1 _ (x1.trans (Ext.laid x1.dom hl1)) upd_same⟩
      · have := strsOf_eq hn
        subst this
        rw [repL_strsE hr] at hl
        exact ⟨l0, ss.map .inr, rfl, by simpa [kV, Function.comp_def] using hl, by simpa using hz, fun l hl1 => h l F1 _ (x1.trans (Ext.laid x1.dom hl1)) upd_same⟩
where SqL.of' {K : PySem.W.Frag} {H : Hp} {a : Addr} {xs : List V} (h : Rd H a (.lst xs)) : SqL K H a xs := .inl h
theorem ssA {ts : List T} {t : T} (e : oSortedSetA ts = some t) : ∃ xs, (ts = [.list xs] ∨ ts = [.tuple xs]) ∧ xs.length < 64 ∧ ((∃ ns, intsOf xs = some ns ∧ t = .list ((sortI (dedup ns)).map .int)) ∨ ∃ ss, strsOf xs = some ss ∧ t = .list ((sortS (dedup ss)).map .str)) := by
  have key : ∀ xs, oSortedSetL [.list xs] = some t → xs.length < 64 ∧ ((∃ ns, intsOf xs = some ns ∧ t = .list ((sortI (dedup ns)).map .int)) ∨ ∃ ss, strsOf xs = some ss ∧ t = .list ((sortS (dedup ss)).map .str)) := by
    intro xs e
    unfold oSortedSetL at e
    dsimp only at e
    split at e
    next hz =>
      split at e
      next ns hn =>
        cases e
        exact ⟨hz, .inl ⟨ns, hn, rfl⟩⟩
      next =>
        simp only [Option.map_eq_some_iff] at e
        obtain ⟨ss, hs, rfl⟩ := e
        exact ⟨hz, .inr ⟨ss, hs, rfl⟩⟩
    next => cases e
  unfold oSortedSetA at e
  split at e
  · exact ⟨_, .inl rfl, key _ e⟩
  · exact ⟨_, .inr rfl, key _ e⟩
  · cases e
theorem q_sortedSetA (hc : X.calm = true) (hs : X.mg "sorted" = none) (ht : X.mg "set" = none) (ha : PEr X a f) (hg : Gl X "sorted" := by rfl) (hg2 : Gl X "set" := by rfl)
    (he : starEach [a] X.env = (false, eval a X.env) :: starEach [] X.env := by rfl) (he2 : starEach [.Call (.Name "set" p2) [a] [] pos2] X.env = (false, eval (.Call (.Name "set" p2) [a] [] pos2) X.env) :: starEach [] X.env := by rfl)
    (hpl : (backTo pos (starEach [] X.env)).any (·.1) = false := by rfl) (hpl2 : (backTo pos2 (starEach [] X.env)).any (·.1) = false := by rfl) :
    PEv X (.Call (.Name "sorted" p) [.Call (.Name "set" p2) [a] [] pos2] [] pos) (opN oSortedSetA [f]) :=
  PE_imp (pe_callB (call_sortedS hc) hg hs (by decide +kernel) (pa_cons (set_of hc ht ha hg2 he hpl2) pa_nil he2) (he := he2) (hpl := hpl)) fun σ H Q ⟨F₀, H₀, O, F, ε, t, r, e, k⟩ => by
  simp only [opN, args, Option.bind_eq_some_iff, Option.map_eq_some_iff] at e
  obtain ⟨ts, ⟨t0, e0, us, eu, rfl⟩, e⟩ := e
  cases eu
  obtain ⟨xs, hx, hz, h⟩ := ssA e
  have fx : f ε = some (.list xs) ∨ f ε = some (.tuple xs) := by
    rcases hx with h | h
    · cases h
      exact .inl e0
    · cases h
      exact .inr e0
  have ln : ∀ {J : Type} (ns : List J) (g : J → L2.Key), ns.length < 64 → (addAll (ns.map g)).length < 64 := fun ns g h => by
    have := foldl_addK_len (ns.map g) []
    simp only [List.length_nil, List.length_map] at this
    unfold addAll
    omega
  have fin : ∀ (ks : List L2.Key) (ys : List V) (rs : List T), ks.length < 64 → sortK ks ys → (∀ F' H', RepL X.K F' H' rs ys) → t = .list rs → ∀ l F' H', Ext F H F' H' → H' l = some (setO X l ks) →
      tNil σ H' fun xs H2 => ∃ p ks ys, (V.ref l :: xs) = [.ref p] ∧ H2 p = some (setO X p ks) ∧ ks.length < 64 ∧ sortK ks ys ∧ ∀ l, H2 l = none → Q (.ref l) (upd H2 l (.lst ys)) := by
    intro ks ys rs h1 h2 h3 h4 l F' H' x hl
    subst h4
    refine ⟨l, ks, ys, rfl, hl, h1, h2, fun l2 hl2 => ?_⟩
    have x3 := Ext.laidF (o := .lst ys) x.dom hl2
    refine k _ _ _ (x.trans x3) ?_
    simp only [Rep]
    exact ⟨l2, ys, rfl, .inr rfl, .inl upd_same, h3 _ _⟩
  refine ⟨F₀, H₀, O, F, ε, xs, r, fx, hz, ?_⟩
  rcases h with ⟨ns, hn, et⟩ | ⟨ss, hn, et⟩
  · have hxs := intsOf_eq hn
    refine .inl ⟨ns, hn, fin _ ((sortI (dedup ns)).map V.int) _ (ln ns _ (by rw [hxs] at hz; simpa using hz)) (.inl ⟨addAll ns, addAll_map Sum.inl (fun _ _ h => Sum.inl.inj h) ns, by rw [sortI_congr (addAll_dedup ns)]⟩) (fun _ _ => repL_ints _) et⟩
  · have hxs := strsOf_eq hn
    refine .inr ⟨ss, hn, fin _ ((sortS (dedup ss)).map V.str) _ (ln ss _ (by rw [hxs] at hz; simpa using hz)) (.inr ⟨addAll ss, addAll_map Sum.inr (fun _ _ h => Sum.inr.inj h) ss, by rw [sortS_congr (addAll_dedup ss)]⟩) (fun _ _ => repL_strs _) et⟩
end
end D
end
section
set_option linter.all false
namespace D
open PySem
/-! trees of ints and of texts: compared, looked up -/
theorem okL_ints (ns : List Int) : PyData.canLayAll0 (ns.map .int) = true ∧ PyData.depthAll (ns.map .int) ≤ 1 := by
  induction ns with
  | nil => simp [PyData.canLayAll0, PyData.depthAll]
  | cons n ns ih => simp [PyData.canLayAll0, PyData.canLay0, PyData.depthAll, PyData.depth, ih]
theorem okL_strs (ss : List Str) (h : ∀ x ∈ ss, (PyData.str x).canLay0 = true) : PyData.canLayAll0 (ss.map .str) = true ∧ PyData.depthAll (ss.map .str) ≤ 1 := by
  induction ss with
  | nil => simp [PyData.canLayAll0, PyData.depthAll]
  | cons n ns ih =>
    have h1 := h n (by simp)
    have h2 := ih fun x hx => h x (by simp [hx])
    simp [PyData.canLayAll0, PyData.depthAll, PyData.depth, h1, h2]
theorem okT_ints (ns : List Int) : okT (.tuple (ns.map .int)) = true := by
  have := okL_ints ns
  simp [okT, PyData.canLay0, PyData.depth, this.1]
  omega
theorem okT_strs (ss : List Str) (h : ∀ x ∈ ss, (PyData.str x).canLay0 = true) : okT (.tuple (ss.map .str)) = true := by
  have := okL_strs ss h
  simp [okT, PyData.canLay0, PyData.depth, this.1]
  omega
theorem eqvAll_ints : ∀ (ns ms : List Int), PyData.eqvAll (ns.map .int) (ms.map .int) = decide (ns = ms)
  | [], [] => by simp [PyData.eqvAll]
  | [], _ :: _ => by simp [PyData.eqvAll]
  | _ :: _, [] => by simp [PyData.eqvAll]
  | n :: ns, m :: ms => by simp [PyData.eqvAll, PyData.eqv, eqvAll_ints ns ms, Bool.beq_eq_decide_eq]
theorem eqvAll_strs : ∀ (ns ms : List Str), PyData.eqvAll (ns.map .str) (ms.map .str) = decide (ns = ms)
  | [], [] => by simp [PyData.eqvAll]
  | [], _ :: _ => by simp [PyData.eqvAll]
  | _ :: _, [] => by simp [PyData.eqvAll]
  | n :: ns, m :: ms => by simp [PyData.eqvAll, PyData.eqv, eqvAll_strs ns ms, Bool.beq_eq_decide_eq]
theorem eqv_ints (ns ms : List Int) : PyData.eqv (.tuple (ns.map .int)) (.tuple (ms.map .int)) = decide (ns = ms) := by rw [PyData.eqv, eqvAll_ints]
theorem eqv_strs (ns ms : List Str) : PyData.eqv (.tuple (ns.map .str)) (.tuple (ms.map .str)) = decide (ns = ms) := by rw [PyData.eqv, eqvAll_strs]
theorem hasT_int (n : Int) : ∀ ns : List Int, hasT (.int n) (ns.map .int) = decide (n ∈ ns)
  | [] => by simp [hasT]
  | m :: ns => by
    have ih := hasT_int n ns
    unfold hasT at ih ⊢
    rw [List.map_cons, List.any_cons, ih]
    simp [PyData.eqv, Bool.beq_eq_decide_eq, eq_comm]
theorem hasT_str (n : Str) : ∀ ns : List Str, hasT (.str n) (ns.map .str) = decide (n ∈ ns)
  | [] => by simp [hasT]
  | m :: ns => by
    have ih := hasT_str n ns
    unfold hasT at ih ⊢
    rw [List.map_cons, List.any_cons, ih]
    simp [PyData.eqv, Bool.beq_eq_decide_eq, eq_comm]
theorem hasT_none : ∀ ns : List Str, hasT .none (ns.map .str) = false
  | [] => by simp [hasT]
  | m :: ns => by
    have ih := hasT_none ns
    unfold hasT at ih ⊢
    rw [List.map_cons, List.any_cons, ih]
    simp [PyData.eqv]
theorem okT_int (n : Int) : okT (.int n) = true := by simp [okT, PyData.canLay0, PyData.depth]
theorem okT_none : okT .none = true := by simp [okT, PyData.canLay0, PyData.depth]
theorem okT_str {x : Str} (h : (PyData.str x).canLay0 = true) : okT (.str x) = true := by simp [okT, PyData.depth, h]
theorem okLs_ints (ns : List Int) : okL (ns.map .int) = true := by
  have := okL_ints ns
  simp [okL, this.1]
  omega
theorem okLs_strs (ss : List Str) (h : ∀ x ∈ ss, (PyData.str x).canLay0 = true) : okL (ss.map .str) = true := by
  have := okL_strs ss h
  simp [okL, this.1]
  omega
theorem oEq_ints (ns ms : List Int) : oEq (.tuple (ns.map .int)) (.tuple (ms.map .int)) = some (.bool (decide (ns = ms))) := by
  unfold oEq
  rw [okT_ints, okT_ints, eqv_ints]
  rfl
theorem oNe_ints (ns ms : List Int) : oNe (.tuple (ns.map .int)) (.tuple (ms.map .int)) = some (.bool (!decide (ns = ms))) := by
  unfold oNe
  rw [okT_ints, okT_ints, eqv_ints]
  rfl
theorem oNe_strs (ns ms : List Str) (h1 : ∀ x ∈ ns, (PyData.str x).canLay0 = true) (h2 : ∀ x ∈ ms, (PyData.str x).canLay0 = true) : oNe (.tuple (ns.map .str)) (.tuple (ms.map .str)) = some (.bool (!decide (ns = ms))) := by
  unfold oNe
  rw [okT_strs ns h1, okT_strs ms h2, eqv_strs]
  rfl
theorem oIn_int (neg : Bool) (n : Int) (ns : List Int) : oIn neg (.int n) (.tuple (ns.map .int)) = some (.bool (if neg then !decide (n ∈ ns) else decide (n ∈ ns))) := by
  simp only [oIn, okT_int, okLs_ints, hasT_int, Bool.and_self, if_true]
theorem oIn_str (neg : Bool) (n : Str) (ns : List Str) (h0 : (PyData.str n).canLay0 = true) (h : ∀ x ∈ ns, (PyData.str x).canLay0 = true) : oIn neg (.str n) (.tuple (ns.map .str)) = some (.bool (if neg then !decide (n ∈ ns) else decide (n ∈ ns))) := by
  simp only [oIn, okT_str h0, okLs_strs ns h, hasT_str, Bool.and_self, if_true]
theorem oIn_none (neg : Bool) (ns : List Str) (h : ∀ x ∈ ns, (PyData.str x).canLay0 = true) : oIn neg .none (.tuple (ns.map .str)) = some (.bool (if neg then true else false)) := by
  simp only [oIn, okT_none, okLs_strs ns h, hasT_none, Bool.and_self, if_true]
  cases neg <;> rfl
end D
end
section
set_option linter.all false
namespace Ho
open D
def b_zones_of : Fs :=
    (rtn (opN oTuple [(opN oSortedSetL [(comp 1 [] (itSeq (op2 oIx (nm 0) (cst (.int 1)))) (gNm 0) (tstB (op1 oNotN (op2 oIx (nm 0) (cst (.int 2))))) (op2 oIx (nm 0) (cst (.int 2))))])]))
def d_zones_of : List T → Option T := runF b_zones_of 1
def b_beyond : Fs :=
    (seq (iff (tstB (op2 oEq (op2 oIx (nm 0) (cst (.int 0))) (nm 1))) (rtn (op2 oIx (nm 0) (cst (.int 1)))) skip)
    (seq (iff (tstB (op2 oEq (op2 oIx (nm 0) (cst (.int 1))) (nm 1))) (rtn (op2 oIx (nm 0) (cst (.int 0)))) skip)
    (rtn (cst .none))))
def d_beyond : List T → Option T := runF b_beyond 2
def b_unseen : Fs :=
    (seq (asg 2 (comp 1 [1] (itSeq (op2 oIx (nm 0) (cst (.int 1)))) (gNm 0) (orT (tstB (op1 oIsN (op2 oIx (nm 0) (cst (.int 2))))) (tstB (op2 (oIn false) (op2 oIx (nm 0) (cst (.int 2))) (nm 1)))) (nmV 0)))
    (seq (dNew 3 (cst (.int 0)) (cst (.bool true)))
    (seq (asgN 4 (mkLst [(cst (.int 0))]))
    (seq (whl (tstL (nm 4)) (seq (pop 5 4)
    (for_ (itSeq (nmV 2)) (gNm 6)
    (seq (asg 7 (opN d_beyond [(nmV 6), (nmV 5)]))
    (iff (andT (tstB (op1 oNotN (nm 7))) (tstB (dIn true (nm 7) 3))) (seq (dPut 3 (nm 7) (cst (.bool true)))
    (app 4 (nmV 7))) skip)))) 1000)
    (rtn (opN oTuple [(dSorted 3)]))))))
def d_unseen : List T → Option T := runF b_unseen 8
def b_ways_on (rec : List T → Option T) : Fs :=
    (seq (iff (tstB (op2 oEq (op2 oIx (nm 2) (op1 oNeg (cst (.int 1)))) (nm 1))) (rtn (mkLst [(mkTup [])])) skip)
    (seq (asgN 3 (mkLst []))
    (seq (for_ (itEnum (itTup (op2 oIx (nm 0) (cst (.int 1))))) (gTu [(gNm 4), (gNm 5)])
    (seq (asg 6 (opN d_beyond [(nmV 5), (op2 oIx (nm 2) (op1 oNeg (cst (.int 1))))]))
    (iff (andT (tstB (op1 oNotN (nm 6))) (tstB (op2 (oIn true) (nm 6) (nm 2)))) (ext 3 (comp 1 [4] (itSeq (opN rec [(nmV 0), (nmV 1), (op2 oAdd (nm 2) (mkTup [(nmV 6)]))])) (gNm 0) (cstT true) (op2 oAdd (mkTup [(nmV 1)]) (nm 0)))) skip)))
    (rtn (nm 3)))))
def d_ways_on : Nat → List T → Option T
  | 0 => fun _ => none
  | n + 1 => runF (b_ways_on (d_ways_on n)) 7
def b_ways : Fs :=
    (rtn (opN oTuple [(opN (d_ways_on 20) [(nmV 0), (nmV 1), (mkTup [(cst (.int 0))])])]))
def d_ways : List T → Option T := runF b_ways 2
def b_l_cell_at : Fs :=
    (seq (iff (tstB (op2 oLt (nm 1) (opN oLen [(nm 0)]))) (rtn (op2 oIx (nm 0) (nm 1))) skip)
    (rtn (cst (.int 0))))
def d_l_cell_at : List T → Option T := runF b_l_cell_at 2
def b_l_mixed : Fs :=
    (seq (asg 2 (op2 oMod (op2 oMul (op2 oAdd (op2 oAdd (opN d_l_cell_at [(nmV 0), (nmV 1)]) (op2 oMul (cst (.int 7919)) (nm 1))) (cst (.int 1))) (cst (.int 48271))) (cst (.int 2147483647))))
    (rtn (op2 oMod (op2 oAdd (op2 oAdd (op2 oMul (nm 2) (nm 2)) (op2 oMul (cst (.int 7)) (nm 2))) (nm 1)) (cst (.int 2147483629)))))
def d_l_mixed : List T → Option T := runF b_l_mixed 3
def b_l_drawn : Fs :=
    (seq (asg 2 (op2 oMod (op2 oMul (op2 oAdd (op2 oAdd (nm 0) (op2 oMul (cst (.int 104729)) (nm 1))) (cst (.int 17))) (cst (.int 69621))) (cst (.int 2147483647))))
    (rtn (op2 oMod (op2 oAdd (op2 oAdd (op2 oMul (nm 2) (nm 2)) (op2 oMul (cst (.int 3)) (nm 2))) (nm 1)) (cst (.int 2147483629)))))
def d_l_drawn : List T → Option T := runF b_l_drawn 3
def b_l_house : Fs :=
    (seq (asg 1 (op2 oAdd (cst (.int 1)) (op2 oMod (nm 0) (cst (.int 7)))))
    (seq (asg 2 (mkTup []))
    (seq (for_ (itRng1 (op2 oMod (op2 oDiv (nm 0) (cst (.int 8))) (cst (.int 11)))) (gNm 3)
    (seq (asg 4 (op2 oDiv (opN d_l_drawn [(nmV 0), (op2 oAdd (cst (.int 50)) (nm 3))]) (cst (.int 4))))
    (seq (asg 5 (op2 oMod (nm 4) (op2 oAdd (nm 1) (cst (.int 1)))))
    (seq (asg 6 (op2 oMod (op2 oAdd (op2 oAdd (nm 5) (cst (.int 1))) (op2 oMod (op2 oDiv (nm 4) (cst (.int 8))) (nm 1))) (op2 oAdd (nm 1) (cst (.int 1)))))
    (seq (asg 7 (op2 oIx (mkTup [(cst .none), (cst .none), (cst (.str "a")), (cst (.str "b")), (cst (.str "back")), (cst (.str "hall")), (cst (.str "win"))]) (op2 oMod (op2 oDiv (nm 4) (cst (.int 64))) (cst (.int 7)))))
    (asg 2 (op2 oAdd (nm 2) (mkTup [(mkTup [(opN oMin [(nm 5), (nm 6)]), (opN oMax [(nm 5), (nm 6)]), (nmV 7)])]))))))))
    (rtn (mkTup [(nmV 1), (nmV 2)])))))
def d_l_house : List T → Option T := runF b_l_house 8
end Ho
end
section
set_option linter.all false
namespace Hg
/-! houses, apart from Python: openings as pairs of rooms -/
def adj (e : Int × Int) (x : Int) : Option Int := if e.1 = x then some e.2 else if e.2 = x then some e.1 else none
def Adj (E : List (Int × Int)) (x y : Int) : Prop := ∃ e ∈ E, adj e x = some y
inductive Reach (E : List (Int × Int)) : Int → Prop
  | zero : Reach E 0
  | step {x y : Int} : Reach E x → Adj E x y → Reach E y
/-- all ends lie in 0 .. R -/
def Within (R : Int) (E : List (Int × Int)) : Prop := ∀ e ∈ E, 0 ≤ e.1 ∧ e.1 ≤ R ∧ 0 ≤ e.2 ∧ e.2 ≤ R
theorem adj_within {R : Int} {E : List (Int × Int)} (h : Within R E) {x y : Int} (a : Adj E x y) : 0 ≤ y ∧ y ≤ R := by
  obtain ⟨e, he, ha⟩ := a
  obtain ⟨h1, h2, h3, h4⟩ := h e he
  unfold adj at ha
  split at ha
  · cases ha; exact ⟨h3, h4⟩
  · split at ha
    · cases ha; exact ⟨h1, h2⟩
    · cases ha
/-- a list of unlike numbers of 0 .. R is no longer than R + 1 -/
theorem nodup_len : ∀ (n : Nat) (l : List Int), l.Nodup → (∀ x ∈ l, 0 ≤ x ∧ x < n) → l.length ≤ n
  | 0, l, _, hb => by
    cases l with
    | nil => simp
    | cons x r => have := hb x (by simp); omega
  | n + 1, l, nd, hb => by
    have h1 := nodup_len n (l.filter fun x => decide (x ≠ (n : Int))) (nd.filter _) (fun x hx => by
      have := List.mem_filter.mp hx
      have hx' := hb x this.1
      have : x ≠ (n : Int) := by simpa using this.2
      omega)
    have h2 : l.length ≤ (l.filter fun x => decide (x ≠ (n : Int))).length + 1 := by
      clear h1 hb
      induction l with
      | nil => simp
      | cons y r ih =>
        have nd' := List.nodup_cons.mp nd
        by_cases e : y = (n : Int)
        · subst e
          have : r.filter (fun x => decide (x ≠ (n : Int))) = r := List.filter_eq_self.mpr fun x hx => by
            have : x ≠ (n : Int) := fun z => nd'.1 (z ▸ hx)
            simpa using this
          rw [List.filter_cons_of_neg (by simp), this]
          simp
        · rw [List.filter_cons_of_pos (by simpa using e)]
          have := ih nd'.2
          simp only [List.length_cons]
          omega
    omega

/-! ### the search -/
def inner (h : Int) : List (Int × Int) → List Int → List Int → List Int × List Int
  | [], r, w => (r, w)
  | e :: es, r, w => match adj e h with
    | some t => if t ∈ r then inner h es r w else inner h es (r ++ [t]) (w ++ [t])
    | none => inner h es r w
def bfs (E : List (Int × Int)) : Nat → List Int → List Int → Option (List Int)
  | 0, _, _ => none
  | n + 1, r, w => match w.getLast? with
    | none => some r
    | some h => bfs E n (inner h E r w.dropLast).1 (inner h E r w.dropLast).2
theorem inner_ok (h : Int) : ∀ (E : List (Int × Int)) (r w : List Int), ∃ new : List Int, inner h E r w = (r ++ new, w ++ new) ∧ (r.Nodup → (r ++ new).Nodup) ∧ (∀ y ∈ new, Adj E h y) ∧ ∀ y, Adj E h y → y ∈ r ++ new
  | [], r, w => ⟨[], by simp [inner], by simp, by simp, fun y ⟨e, he, _⟩ => by simp at he⟩
  | e :: es, r, w => by
    unfold inner
    have up : ∀ {y : Int}, Adj es h y → Adj (e :: es) h y := fun ⟨e', h1, h2⟩ => ⟨e', List.mem_cons_of_mem _ h1, h2⟩
    split
    next t ht =>
      split
      next hm =>
        obtain ⟨new, h1, h2, h3, h4⟩ := inner_ok h es r w
        refine ⟨new, h1, h2, fun y hy => up (h3 y hy), fun y ⟨e', he', ha⟩ => ?_⟩
        rcases List.mem_cons.mp he' with rfl | he'
        · rw [ht] at ha
          cases ha
          exact List.mem_append_left _ hm
        · exact h4 y ⟨e', he', ha⟩
      next hm =>
        obtain ⟨new, h1, h2, h3, h4⟩ := inner_ok h es (r ++ [t]) (w ++ [t])
        refine ⟨t :: new, by rw [h1]; simp, fun nd => ?_, fun y hy => ?_, fun y ⟨e', he', ha⟩ => ?_⟩
        · have : (r ++ [t]).Nodup := by
            rw [List.nodup_append]
            refine ⟨nd, by simp, fun a ha b hb => ?_⟩
            have : b = t := by simpa using hb
            subst this
            exact fun z => hm (z ▸ ha)
          simpa using h2 this
        · rcases List.mem_cons.mp hy with rfl | hy
          · exact ⟨e, List.mem_cons_self, ht⟩
          · exact up (h3 y hy)
        · rcases List.mem_cons.mp he' with rfl | he'
          · rw [ht] at ha
            cases ha
            simp
          · have := h4 y ⟨e', he', ha⟩
            simpa using this
    next hn =>
      obtain ⟨new, h1, h2, h3, h4⟩ := inner_ok h es r w
      refine ⟨new, h1, h2, fun y hy => up (h3 y hy), fun y ⟨e', he', ha⟩ => ?_⟩
      rcases List.mem_cons.mp he' with rfl | he'
      · rw [hn] at ha
        cases ha
      · exact h4 y ⟨e', he', ha⟩
structure Mid (R : Int) (E : List (Int × Int)) (r w : List Int) : Prop where
  nd : r.Nodup
  z : (0 : Int) ∈ r
  wr : ∀ x ∈ w, x ∈ r
  bd : ∀ x ∈ r, 0 ≤ x ∧ x ≤ R
  re : ∀ x ∈ r, Reach E x
  cl : ∀ x ∈ r, x ∉ w → ∀ y, Adj E x y → y ∈ r
theorem bfs_mid {R : Int} {E : List (Int × Int)} (hE : Within R E) (hR : R ≤ 7) : ∀ (n : Nat) (r w : List Int), Mid R E r w → 2 * (8 - r.length) + w.length < n → ∃ r', bfs E n r w = some r' ∧ Mid R E r' []
  | 0, r, w, m, h => by omega
  | n + 1, r, w, m, h => by
    unfold bfs
    split
    next e => exact ⟨r, rfl, by have : w = [] := by simpa using e
                                subst this; exact m⟩
    next x e =>
      have hw : w = w.dropLast ++ [x] := by
        have hne : w ≠ [] := by rintro rfl; simp at e
        have := List.dropLast_concat_getLast hne
        have e2 : w.getLast hne = x := by
          rw [List.getLast?_eq_getLast hne] at e
          exact Option.some.inj e
        rw [e2] at this
        exact this.symm
      obtain ⟨new, h1, h2, h3, h4⟩ := inner_ok x E r w.dropLast
      rw [h1]
      have hx : x ∈ w := by rw [hw]; simp
      have nd := h2 m.nd
      have m' : Mid R E (r ++ new) (w.dropLast ++ new) := by
        refine ⟨nd, List.mem_append_left _ m.z, fun y hy => ?_, fun y hy => ?_, fun y hy => ?_, fun y hy hn z az => ?_⟩
        · rcases List.mem_append.mp hy with hy | hy
          · exact List.mem_append_left _ (m.wr y (List.dropLast_subset _ hy))
          · exact List.mem_append_right _ hy
        · rcases List.mem_append.mp hy with hy | hy
          · exact m.bd y hy
          · exact adj_within hE (h3 y hy)
        · rcases List.mem_append.mp hy with hy | hy
          · exact m.re y hy
          · exact .step (m.re x (m.wr x hx)) (h3 y hy)
        · by_cases exy : y = x
          · subst exy
            exact h4 z az
          · rcases List.mem_append.mp hy with hy | hy
            · refine List.mem_append_left _ (m.cl y hy (fun hyw => hn (List.mem_append_left _ ?_)) z az)
              rw [hw] at hyw
              rcases List.mem_append.mp hyw with q | q
              · exact q
              · exact absurd (by simpa using q) exy
            · exact absurd (List.mem_append_right _ hy) hn
      have lr : (r ++ new).length ≤ 8 := nodup_len 8 _ nd fun y hy => by have := m'.bd y hy; omega
      have lw : w.length = w.dropLast.length + 1 := by
        conv => lhs; rw [hw]
        simp
      refine bfs_mid hE hR n _ _ m' ?_
      simp only [List.length_append] at lr ⊢
      omega
theorem bfs_ok {R : Int} {E : List (Int × Int)} (hE : Within R E) (h0 : 0 ≤ R) (hR : R ≤ 7) {n : Nat} (hn : 15 < n) : ∃ r, bfs E n [0] [0] = some r ∧ r.Nodup ∧ (∀ x, x ∈ r ↔ Reach E x) ∧ ∀ x ∈ r, 0 ≤ x ∧ x ≤ R := by
  obtain ⟨r, h1, m⟩ := bfs_mid (n := n) hE hR [0] [0] ⟨by simp, by simp, by simp, by simpa using h0, fun x hx => (show x = 0 by simpa using hx) ▸ Reach.zero, by simp⟩ (by simp; omega)
  refine ⟨r, h1, m.nd, fun x => ⟨m.re x, fun hx => ?_⟩, m.bd⟩
  induction hx with
  | zero => exact m.z
  | step _ a ih => exact m.cl _ ih (by simp) _ a

/-! ### the ways -/
def exts (rec : List Int → Option (List (List Nat))) (pl : List Int) (h : Int) : Nat → List (Int × Int) → Option (List (List Nat))
  | _, [] => some []
  | k, e :: es => match adj e h with
    | some t => if t ∈ pl then exts rec pl h (k + 1) es else (rec (pl ++ [t])).bind fun ws => (exts rec pl h (k + 1) es).map fun vs => ws.map (fun w => k :: w) ++ vs
    | none => exts rec pl h (k + 1) es
def waysP (E : List (Int × Int)) (room : Int) : Nat → List Int → Option (List (List Nat))
  | 0, _ => none
  | n + 1, pl => match pl.getLast? with
    | none => none
    | some h => if h = room then some [[]] else exts (waysP E room n) pl h 0 E
theorem exts_tot {rec : List Int → Option (List (List Nat))} {pl : List Int} {h : Int} {B : Nat} (E₀ : List (Int × Int)) (hr : ∀ t, Adj E₀ h t → t ∉ pl → ∃ ws, rec (pl ++ [t]) = some ws ∧ ws.length ≤ B) :
    ∀ (k : Nat) (E : List (Int × Int)), (∀ e ∈ E, e ∈ E₀) → ∃ ws, exts rec pl h k E = some ws ∧ ws.length ≤ E.length * B
  | k, [], _ => ⟨[], rfl, by simp⟩
  | k, e :: es, hs => by
    obtain ⟨vs, h1, h2⟩ := exts_tot E₀ hr (k + 1) es fun e he => hs e (List.mem_cons_of_mem _ he)
    have h3 : es.length * B ≤ (e :: es).length * B := Nat.mul_le_mul_right _ (by simp)
    unfold exts
    split
    next t ht =>
      split
      next => exact ⟨vs, h1, by omega⟩
      next hm =>
        obtain ⟨ws, h4, h5⟩ := hr t ⟨e, hs e List.mem_cons_self, ht⟩ hm
        refine ⟨_, by rw [h4, h1]; rfl, ?_⟩
        simp only [List.length_append, List.length_map, List.length_cons, Nat.succ_mul]
        omega
    next => exact ⟨vs, h1, by omega⟩
theorem ways_tot {R : Int} {E : List (Int × Int)} (hE : Within R E) (hR : R ≤ 7) (hl : E.length ≤ 10) (room : Int) :
    ∀ (n : Nat) (pl : List Int), pl ≠ [] → pl.Nodup → (∀ x ∈ pl, 0 ≤ x ∧ x ≤ R) → 9 ≤ n + pl.length → ∃ ws, waysP E room n pl = some ws ∧ ws.length ≤ 10 ^ (8 - pl.length)
  | 0, pl, hne, nd, hb, hn => by
    have := nodup_len 8 pl nd fun y hy => by have := hb y hy; omega
    omega
  | n + 1, pl, hne, nd, hb, hn => by
    unfold waysP
    rw [List.getLast?_eq_getLast hne]
    simp only
    split
    next => exact ⟨_, rfl, by simpa using Nat.one_le_pow _ 10 (by decide)⟩
    next =>
      have l8 := nodup_len 8 pl nd fun y hy => by have := hb y hy; omega
      by_cases full : pl.length = 8
      · -- no room is left
        have none_new : ∀ t, Adj E (pl.getLast hne) t → t ∉ pl → False := fun t a hm => by
          have hw := adj_within hE a
          have nd' : (pl ++ [t]).Nodup := by
            rw [List.nodup_append]
            refine ⟨nd, by simp, fun x hx y hy => ?_⟩
            have : y = t := by simpa using hy
            subst this
            exact fun z => hm (z ▸ hx)
          have := nodup_len 8 (pl ++ [t]) nd' fun y hy => by
            rcases List.mem_append.mp hy with hy | hy
            · have := hb y hy; omega
            · have : y = t := by simpa using hy
              subst this
              omega
          simp at this
          omega
        obtain ⟨ws, h1, h2⟩ := exts_tot (B := 0) (pl := pl) (h := pl.getLast hne) (rec := waysP E room n) E (fun t a hm => (none_new t a hm).elim) 0 E fun _ h => h
        exact ⟨ws, h1, by have : ws.length = 0 := by omega
                          rw [this]; exact Nat.zero_le _⟩
      · obtain ⟨ws, h1, h2⟩ := exts_tot (B := 10 ^ (8 - (pl.length + 1))) (pl := pl) (h := pl.getLast hne) (rec := waysP E room n) E (fun t a hm => by
          have hw := adj_within hE a
          have := ways_tot hE hR hl room n (pl ++ [t]) (by simp) (by
            rw [List.nodup_append]
            refine ⟨nd, by simp, fun x hx y hy => ?_⟩
            have : y = t := by simpa using hy
            subst this
            exact fun z => hm (z ▸ hx)) (fun y hy => by
            rcases List.mem_append.mp hy with hy | hy
            · exact hb y hy
            · have : y = t := by simpa using hy
              subst this
              exact hw) (by simp; omega)
          simpa using this) 0 E fun _ h => h
        refine ⟨ws, h1, ?_⟩
        have e : 8 - pl.length = (8 - (pl.length + 1)) + 1 := by omega
        rw [e, Nat.pow_succ]
        have := Nat.mul_le_mul_right (10 ^ (8 - (pl.length + 1))) hl
        omega
inductive Walk (E : List (Int × Int)) : Int → List Int → Int → Prop
  | nil (x : Int) : Walk E x [] x
  | cons {x y z : Int} {p : List Int} : Adj E x y → Walk E y p z → Walk E x (y :: p) z
theorem exts_some {rec : List Int → Option (List (List Nat))} {pl : List Int} {h : Int} : ∀ {k : Nat} {E : List (Int × Int)} {ws : List (List Nat)}, exts rec pl h k E = some ws → ∀ t, Adj E h t → t ∉ pl → ∃ vs, rec (pl ++ [t]) = some vs ∧ (vs ≠ [] → ws ≠ [])
  | k, [], ws, e, t, ⟨e', he', _⟩, _ => by simp at he'
  | k, e :: es, ws, h1, t, ⟨e', he', ha⟩, hm => by
    unfold exts at h1
    split at h1
    next t' ht' =>
      split at h1
      next hm' =>
        rcases List.mem_cons.mp he' with rfl | he'
        · rw [ht'] at ha
          cases ha
          exact absurd hm' hm
        · exact exts_some h1 t ⟨e', he', ha⟩ hm
      next hm' =>
        simp only [Option.bind_eq_some_iff, Option.map_eq_some_iff] at h1
        obtain ⟨us, h2, vs, h3, rfl⟩ := h1
        rcases List.mem_cons.mp he' with rfl | he'
        · rw [ht'] at ha
          cases ha
          exact ⟨us, h2, fun q z => q (by have := (List.append_eq_nil_iff.mp z).1; simpa using this)⟩
        · obtain ⟨xs, q1, q2⟩ := exts_some h3 t ⟨e', he', ha⟩ hm
          exact ⟨xs, q1, fun q z => q2 q (List.append_eq_nil_iff.mp z).2⟩
    next hn =>
      rcases List.mem_cons.mp he' with rfl | he'
      · rw [hn] at ha
        cases ha
      · exact exts_some h1 t ⟨e', he', ha⟩ hm
theorem exts_ne {rec : List Int → Option (List (List Nat))} {pl : List Int} {h : Int} : ∀ {k : Nat} {E : List (Int × Int)} {ws : List (List Nat)}, exts rec pl h k E = some ws → ws ≠ [] → ∃ t vs, Adj E h t ∧ t ∉ pl ∧ rec (pl ++ [t]) = some vs ∧ vs ≠ []
  | k, [], ws, e, hn => by
    cases e
    exact absurd rfl hn
  | k, e :: es, ws, h1, hne => by
    have up : ∀ {y : Int}, Adj es h y → Adj (e :: es) h y := fun ⟨e', h1, h2⟩ => ⟨e', List.mem_cons_of_mem _ h1, h2⟩
    unfold exts at h1
    split at h1
    next t ht =>
      split at h1
      next =>
        obtain ⟨t', vs, a, b, c, d⟩ := exts_ne h1 hne
        exact ⟨t', vs, up a, b, c, d⟩
      next hm =>
        simp only [Option.bind_eq_some_iff, Option.map_eq_some_iff] at h1
        obtain ⟨us, h2, vs, h3, rfl⟩ := h1
        by_cases hu : us = []
        · subst hu
          obtain ⟨t', vs', a, b, c, d⟩ := exts_ne h3 (by simpa using hne)
          exact ⟨t', vs', up a, b, c, d⟩
        · exact ⟨t, us, ⟨e, List.mem_cons_self, ht⟩, hm, h2, hu⟩
    next =>
      obtain ⟨t', vs, a, b, c, d⟩ := exts_ne h1 hne
      exact ⟨t', vs, up a, b, c, d⟩
theorem ways_of_walk {E : List (Int × Int)} {room : Int} : ∀ {p : List Int} {n : Nat} {pl : List Int} {cur : Int} {ws : List (List Nat)}, Walk E cur p room → (cur :: p).Nodup → (∀ y ∈ p, y ∉ pl) → pl.getLast? = some cur → waysP E room n pl = some ws → ws ≠ []
  | p, 0, pl, cur, ws, _, _, _, _, h => by cases h
  | [], n + 1, pl, cur, ws, hw, _, _, hl, h => by
    cases hw
    unfold waysP at h
    rw [hl] at h
    simp only [if_true] at h
    cases h
    simp
  | y :: p, n + 1, pl, cur, ws, hw, nd, hp, hl, h => by
    cases hw with
    | cons a w =>
      unfold waysP at h
      rw [hl] at h
      simp only at h
      split at h
      next => cases h; simp
      next =>
        obtain ⟨vs, h1, h2⟩ := exts_some h y a (hp y (by simp))
        have nd' := (List.nodup_cons.mp nd).2
        refine h2 (ways_of_walk w nd' (fun z hz hm => ?_) (by simp) h1)
        rcases List.mem_append.mp hm with hm | hm
        · exact hp z (List.mem_cons_of_mem _ hz) hm
        · have : z = y := by simpa using hm
          subst this
          exact (List.nodup_cons.mp nd').1 hz
theorem walk_of_ways {E : List (Int × Int)} {room : Int} : ∀ {n : Nat} {pl : List Int} {cur : Int} {ws : List (List Nat)}, pl.getLast? = some cur → waysP E room n pl = some ws → ws ≠ [] → ∃ p, Walk E cur p room
  | 0, pl, cur, ws, _, h, _ => by cases h
  | n + 1, pl, cur, ws, hl, h, hne => by
    unfold waysP at h
    rw [hl] at h
    simp only at h
    split at h
    next e =>
      subst e
      exact ⟨[], .nil _⟩
    next =>
      obtain ⟨t, vs, a, b, c, d⟩ := exts_ne h hne
      obtain ⟨p, w⟩ := walk_of_ways (pl := pl ++ [t]) (cur := t) (by simp) c d
      exact ⟨t :: p, .cons a w⟩
theorem walk_snoc {E : List (Int × Int)} {x y z : Int} {p : List Int} (w : Walk E x p y) (a : Adj E y z) : Walk E x (p ++ [z]) z := by
  induction w with
  | nil x => exact .cons a (.nil z)
  | cons b _ ih => exact .cons b (ih a)
theorem walk_reach {E : List (Int × Int)} {x y : Int} {p : List Int} (w : Walk E x p y) (r : Reach E x) : Reach E y := by
  induction w with
  | nil x => exact r
  | cons a _ ih => exact ih (.step r a)
/-- a walk is cut where it comes to y first -/
theorem walk_cut {E : List (Int × Int)} {x z y : Int} {p : List Int} (w : Walk E x p z) (nd : (x :: p).Nodup) (hy : y ∈ x :: p) : ∃ q, Walk E x q y ∧ (x :: q).Nodup := by
  induction w with
  | nil x =>
    have : y = x := by simpa using hy
    subst this
    exact ⟨[], .nil _, by simp⟩
  | @cons x u z p a w ih =>
    by_cases e : y = x
    · subst e
      exact ⟨[], .nil _, by simp⟩
    · have nd' := List.nodup_cons.mp nd
      -- all that is walked lies in u :: p
      have sub : ∀ {q : List Int}, Walk E u q y → True := fun _ => trivial
      obtain ⟨q, w', ndq, hs⟩ : ∃ q, Walk E u q y ∧ (u :: q).Nodup ∧ ∀ t ∈ u :: q, t ∈ u :: p := by
        have hy' : y ∈ u :: p := by
          rcases List.mem_cons.mp hy with h | h
          · exact absurd h e
          · exact h
        clear ih sub a nd hy e
        have nd2 := nd'.2
        clear nd'
        induction w with
        | nil u =>
          have : y = u := by simpa using hy'
          subst this
          exact ⟨[], .nil _, by simp, by simp⟩
        | @cons u v z p b w ih =>
          by_cases e : y = u
          · subst e
            exact ⟨[], .nil _, by simp, by simp⟩
          · have n3 := List.nodup_cons.mp nd2
            obtain ⟨q, w', ndq, hs⟩ := ih (by
              rcases List.mem_cons.mp hy' with h | h
              · exact absurd h e
              · exact h) n3.2
            refine ⟨v :: q, .cons b w', List.nodup_cons.mpr ⟨fun h => n3.1 (hs u h), ndq⟩, fun t ht => ?_⟩
            rcases List.mem_cons.mp ht with rfl | ht
            · simp
            · exact List.mem_cons_of_mem _ (hs t ht)
      exact ⟨u :: q, .cons a w', List.nodup_cons.mpr ⟨fun h => nd'.1 (hs x h), ndq⟩⟩
theorem reach_walk {E : List (Int × Int)} {x : Int} (r : Reach E x) : ∃ p, Walk E 0 p x ∧ ((0 : Int) :: p).Nodup := by
  induction r with
  | zero => exact ⟨[], .nil _, by simp⟩
  | @step x y _ a ih =>
    obtain ⟨p, w, nd⟩ := ih
    by_cases h : y ∈ (0 : Int) :: p
    · exact walk_cut w nd h
    · refine ⟨p ++ [y], walk_snoc w a, ?_⟩
      rw [← List.cons_append, List.nodup_append]
      refine ⟨nd, by simp, fun s hs t ht => ?_⟩
      have : t = y := by simpa using ht
      subst this
      exact fun e => h (e ▸ hs)
/-- a room has a way just if it is reached -/
theorem ways_iff {E : List (Int × Int)} {room : Int} {n : Nat} {ws : List (List Nat)} (h : waysP E room n [0] = some ws) : ws ≠ [] ↔ Reach E room := by
  constructor
  · intro hne
    obtain ⟨p, w⟩ := walk_of_ways (cur := 0) (by simp) h hne
    exact walk_reach w .zero
  · intro r
    obtain ⟨p, w, nd⟩ := reach_walk r
    refine ways_of_walk w nd (fun y hy hm => ?_) (by simp) h
    have : y = 0 := by simpa using hm
    subst this
    exact (List.nodup_cons.mp nd).1 hy
end Hg
end
section
set_option linter.all false
namespace Hg
/-! ways, told by what they go through -/
/-- from cur by the openings of w one comes through the rooms p -/
def Fol (E : List (Int × Int)) : Int → List Nat → List Int → Prop
  | _, [], p => p = []
  | cur, k :: w, p => ∃ e t q, E[k]? = some e ∧ adj e cur = some t ∧ p = t :: q ∧ Fol E t w q
theorem exts_mem {rec : List Int → Option (List (List Nat))} {pl : List Int} {h : Int} : ∀ {E : List (Int × Int)} {k : Nat} {ws : List (List Nat)}, exts rec pl h k E = some ws → ∀ w, w ∈ ws ↔ ∃ j e t us w', E[j]? = some e ∧ adj e h = some t ∧ t ∉ pl ∧ rec (pl ++ [t]) = some us ∧ w' ∈ us ∧ w = (k + j) :: w'
  | [], k, ws, e, w => by
    cases e
    simp
  | e :: es, k, ws, h1, w => by
    have sh : ∀ {vs : List (List Nat)}, exts rec pl h (k + 1) es = some vs → (w ∈ vs ↔ ∃ j e' t us w', (e :: es)[j + 1]? = some e' ∧ adj e' h = some t ∧ t ∉ pl ∧ rec (pl ++ [t]) = some us ∧ w' ∈ us ∧ w = (k + (j + 1)) :: w') := fun hv => by
      rw [exts_mem hv w]
      constructor
      · rintro ⟨j, e', t, us, w', a1, a2, a3, a4, a5, a6⟩
        exact ⟨j, e', t, us, w', by simpa using a1, a2, a3, a4, a5, by rw [a6]; congr 1; omega⟩
      · rintro ⟨j, e', t, us, w', a1, a2, a3, a4, a5, a6⟩
        exact ⟨j, e', t, us, w', by simpa using a1, a2, a3, a4, a5, by rw [a6]; congr 1; omega⟩
    unfold exts at h1
    split at h1
    next t ht =>
      split at h1
      next hm =>
        rw [sh h1]
        constructor
        · rintro ⟨j, r⟩
          exact ⟨j + 1, r⟩
        · rintro ⟨j, e', t', us, w', a1, a2, a3, r⟩
          cases j with
          | zero =>
            cases a1
            rw [ht] at a2
            cases a2
            exact absurd hm a3
          | succ j => exact ⟨j, e', t', us, w', a1, a2, a3, r⟩
      next hm =>
        simp only [Option.bind_eq_some_iff, Option.map_eq_some_iff] at h1
        obtain ⟨us, h2, vs, h3, rfl⟩ := h1
        rw [List.mem_append, sh h3, List.mem_map]
        constructor
        · rintro (⟨w', q1, q2⟩ | ⟨j, r⟩)
          · exact ⟨0, e, t, us, w', rfl, ht, hm, h2, q1, by rw [← q2]; rfl⟩
          · exact ⟨j + 1, r⟩
        · rintro ⟨j, e', t', us', w', a1, a2, a3, a4, a5, a6⟩
          cases j with
          | zero =>
            cases a1
            rw [ht] at a2
            cases a2
            rw [h2] at a4
            cases a4
            exact .inl ⟨w', a5, a6.symm⟩
          | succ j => exact .inr ⟨j, e', t', us', w', a1, a2, a3, a4, a5, a6⟩
    next hn =>
      rw [sh h1]
      constructor
      · rintro ⟨j, r⟩
        exact ⟨j + 1, r⟩
      · rintro ⟨j, e', t', us, w', a1, a2, a3, r⟩
        cases j with
        | zero =>
          cases a1
          rw [hn] at a2
          cases a2
        | succ j => exact ⟨j, e', t', us, w', a1, a2, a3, r⟩
/-- all searches below have enough fuel -/
theorem exts_all {rec : List Int → Option (List (List Nat))} {pl : List Int} {h : Int} {E : List (Int × Int)} {k : Nat} {ws : List (List Nat)} (e : exts rec pl h k E = some ws) {j : Nat} {e' : Int × Int} {t : Int} (h1 : E[j]? = some e') (h2 : adj e' h = some t) (h3 : t ∉ pl) : ∃ vs, rec (pl ++ [t]) = some vs := by
  obtain ⟨vs, hv, _⟩ := exts_some e t ⟨e', List.mem_of_getElem? h1, h2⟩ h3
  exact ⟨vs, hv⟩
theorem ways_mem {E : List (Int × Int)} {room : Int} : ∀ {n : Nat} {pl : List Int} {cur : Int} {ws : List (List Nat)}, pl.getLast? = some cur → waysP E room n pl = some ws → ∀ w, w ∈ ws ↔ ∃ p, Fol E cur w p ∧ p.Nodup ∧ (∀ y ∈ p, y ∉ pl) ∧ (cur :: p).getLast? = some room
  | 0, pl, cur, ws, _, h, _ => by cases h
  | n + 1, pl, cur, ws, hl, h, w => by
    have hcur : cur ∈ pl := List.mem_of_getLast? hl
    unfold waysP at h
    rw [hl] at h
    simp only at h
    split at h
    next e =>
      subst e
      cases h
      constructor
      · intro hw
        have : w = [] := by simpa using hw
        subst this
        exact ⟨[], rfl, by simp, by simp, rfl⟩
      · rintro ⟨p, h1, h2, h3, h4⟩
        cases w with
        | nil => simp
        | cons k w =>
          obtain ⟨e', t, q, _, _, rfl, _⟩ := h1
          have hm : cur ∈ t :: q := by
            rw [List.getLast?_cons_cons] at h4
            exact List.mem_of_getLast? h4
          exact absurd hcur (h3 cur hm)
    next hne =>
      rw [exts_mem h w]
      constructor
      · rintro ⟨j, e', t, us, w', a1, a2, a3, a4, a5, a6⟩
        obtain ⟨p, p1, p2, p3, p4⟩ := (ways_mem (pl := pl ++ [t]) (cur := t) (by simp) a4 w').mp a5
        refine ⟨t :: p, ?_, ?_, ?_, by rw [List.getLast?_cons_cons]; exact p4⟩
        · rw [a6]
          exact ⟨e', t, p, by simpa using a1, a2, rfl, p1⟩
        · exact List.nodup_cons.mpr ⟨fun z => p3 t z (by simp), p2⟩
        · intro y hy
          rcases List.mem_cons.mp hy with rfl | hy
          · exact a3
          · exact fun z => p3 y hy (by simp [z])
      · rintro ⟨p, h1, h2, h3, h4⟩
        cases w with
        | nil =>
          have : p = [] := h1
          subst this
          simp at h4
          exact absurd h4 hne
        | cons k w =>
          obtain ⟨e', t, q, b1, b2, rfl, b3⟩ := h1
          have ht : t ∉ pl := h3 t (by simp)
          obtain ⟨us, hu⟩ := exts_all h b1 b2 ht
          have nd := List.nodup_cons.mp h2
          refine ⟨k, e', t, us, w, b1, b2, ht, hu, ?_, by simp⟩
          refine (ways_mem (pl := pl ++ [t]) (cur := t) (by simp) hu w).mpr ⟨q, b3, nd.2, fun y hy z => ?_, by rw [List.getLast?_cons_cons] at h4; exact h4⟩
          rcases List.mem_append.mp z with z | z
          · exact h3 y (by simp [hy]) z
          · have : y = t := by simpa using z
            subst this
            exact nd.1 hy
theorem ways_char {E : List (Int × Int)} {room : Int} {n : Nat} {ws : List (List Nat)} (h : waysP E room n [0] = some ws) (w : List Nat) : w ∈ ws ↔ ∃ p, Fol E 0 w p ∧ ((0 : Int) :: p).Nodup ∧ ((0 : Int) :: p).getLast? = some room := by
  rw [ways_mem (cur := 0) rfl h w]
  constructor
  · rintro ⟨p, h1, h2, h3, h4⟩
    exact ⟨p, h1, List.nodup_cons.mpr ⟨fun z => h3 0 z (by simp), h2⟩, h4⟩
  · rintro ⟨p, h1, h2, h4⟩
    have nd := List.nodup_cons.mp h2
    exact ⟨p, h1, nd.2, fun y hy z => nd.1 (by have : y = 0 := by simpa using z
                                               exact this ▸ hy), h4⟩
theorem walk_last {E : List (Int × Int)} {x y : Int} {p : List Int} (w : Walk E x p y) : (x :: p).getLast? = some y := by
  induction w with
  | nil x => rfl
  | cons a w ih => rw [List.getLast?_cons_cons]; exact ih
/-- the openings of a walk -/
theorem fol_of_walk {E F : List (Int × Int)} (P : Nat → Prop) (hF : ∀ e ∈ F, ∃ k, E[k]? = some e ∧ P k) {x y : Int} {p : List Int} (w : Walk F x p y) : ∃ v, Fol E x v p ∧ ∀ k ∈ v, P k := by
  induction w with
  | nil x => exact ⟨[], rfl, by simp⟩
  | @cons x t y p a w ih =>
    obtain ⟨v, h1, h2⟩ := ih
    obtain ⟨e, he, ha⟩ := a
    obtain ⟨k, hk, hp⟩ := hF e he
    refine ⟨k :: v, ⟨e, t, p, hk, ha, rfl, h1⟩, fun j hj => ?_⟩
    rcases List.mem_cons.mp hj with rfl | hj
    · exact hp
    · exact h2 j hj
theorem walk_of_fol {E F : List (Int × Int)} (P : Nat → Prop) (hF : ∀ k e, E[k]? = some e → P k → e ∈ F) : ∀ {v : List Nat} {x : Int} {p : List Int}, Fol E x v p → (∀ k ∈ v, P k) → ∃ y, Walk F x p y
  | [], x, p, h, _ => by
    have : p = [] := h
    subst this
    exact ⟨x, .nil x⟩
  | k :: v, x, p, ⟨e, t, q, h1, h2, h3, h4⟩, hp => by
    subst h3
    obtain ⟨y, w⟩ := walk_of_fol P hF h4 fun j hj => hp j (by simp [hj])
    exact ⟨y, .cons ⟨e, hF k e h1 (hp k (by simp)), h2⟩ w⟩
/-- a room is come to by openings of a kind just if it has a way of such -/
theorem reach_way {E F : List (Int × Int)} (P : Nat → Prop) (h1 : ∀ e ∈ F, ∃ k, E[k]? = some e ∧ P k) (h2 : ∀ k e, E[k]? = some e → P k → e ∈ F) {room : Int} {n : Nat} {ws : List (List Nat)} (h : waysP E room n [0] = some ws) :
    Reach F room ↔ ∃ w ∈ ws, ∀ k ∈ w, P k := by
  constructor
  · intro r
    obtain ⟨p, w, nd⟩ := reach_walk r
    obtain ⟨v, q1, q2⟩ := fol_of_walk P h1 w
    exact ⟨v, (ways_char h v).mpr ⟨p, q1, nd, walk_last w⟩, q2⟩
  · rintro ⟨v, hv, hp⟩
    obtain ⟨p, q1, q2, q3⟩ := (ways_char h v).mp hv
    obtain ⟨y, w⟩ := walk_of_fol P h2 q1 hp
    have : y = room := by
      have := walk_last w
      rw [q3] at this
      exact (Option.some.inj this).symm
    subst this
    exact walk_reach w .zero
theorem reach_mono {E F : List (Int × Int)} (h : ∀ e ∈ E, e ∈ F) {x : Int} (r : Reach E x) : Reach F x := by
  induction r with
  | zero => exact .zero
  | step _ a ih =>
    obtain ⟨e, he, ha⟩ := a
    exact .step ih ⟨e, h e he, ha⟩
theorem adj_sum {e : Int × Int} {x t : Int} (h : adj e x = some t) : (x = e.1 ∨ x = e.2) ∧ e.1 + e.2 - x = t := by
  unfold adj at h
  split at h
  · cases h
    omega
  · split at h
    · cases h
      omega
    · cases h
end Hg
end
section
set_option linter.all false
set_option maxHeartbeats 1000000
namespace Ho
open PySem D
abbrev Op := Int × Int × Option Str
def zT : Option Str → T
  | none => .none
  | some x => .str x
def opT (o : Op) : T := .tuple [.int o.1, .int o.2.1, zT o.2.2]
def houseT (R : Int) (os : List Op) : T := .tuple [.int R, .tuple (os.map opT)]
def namesT (ns : List Str) : T := .tuple (ns.map .str)
def free (ns : List Str) (o : Op) : Bool := match o.2.2 with
  | none => true
  | some x => decide (x ∈ ns)
def edge (o : Op) : Int × Int := (o.1, o.2.1)
def oT : Option Int → T
  | some t => .int t
  | none => .none
theorem oEq_int (a b : Int) : oEq (.int a) (.int b) = some (.bool (decide (a = b))) := by
  simp [oEq, okT_int, PyData.eqv, Bool.beq_eq_decide_eq]
theorem seq_nx {a b : Fs} {ε ε' : Ev} (h : a ε = some (.nx ε')) : seq a b ε = b ε' := by
  simp only [seq, h, Option.bind_some]
theorem beyond_eq (o : Op) (h : Int) : d_beyond [opT o, .int h] = some (oT (Hg.adj (edge o) h)) := by
  obtain ⟨a, b, z⟩ := o
  by_cases h1 : a = h
  · simp [d_beyond, b_beyond, opT, runF, seq, iff, tstB, tstL, andT, orT, notT, cstT, ofT, op1, op2, opN, args, cst, nm, nmV, rtn, skip, asg, asgN, asgT, par, mkTup, mkLst, oIsN, oNotN, oIx, atZ, ixOf, gNm, gTu, gAll, itSeq, comp, capEnv, oEq_int, Hg.adj, edge, oT, h1]
  · by_cases h2 : b = h
    · simp [d_beyond, b_beyond, opT, runF, seq, iff, tstB, tstL, andT, orT, notT, cstT, ofT, op1, op2, opN, args, cst, nm, nmV, rtn, skip, asg, asgN, asgT, par, mkTup, mkLst, oIsN, oNotN, oIx, atZ, ixOf, gNm, gTu, gAll, itSeq, comp, capEnv, oEq_int, Hg.adj, edge, oT, h1, h2]
    · simp [d_beyond, b_beyond, opT, runF, seq, iff, tstB, tstL, andT, orT, notT, cstT, ofT, op1, op2, opN, args, cst, nm, nmV, rtn, skip, asg, asgN, asgT, par, mkTup, mkLst, oIsN, oNotN, oIx, atZ, ixOf, gNm, gTu, gAll, itSeq, comp, capEnv, oEq_int, Hg.adj, edge, oT, h1, h2]
def StrsOk (ns : List Str) : Prop := ∀ x ∈ ns, (PyData.str x).canLay0 = true
def OpsOk (os : List Op) : Prop := ∀ o ∈ os, ∀ x, o.2.2 = some x → (PyData.str x).canLay0 = true
theorem comp_free {ns : List Str} (hn : StrsOk ns) : ∀ (os : List Op), OpsOk os → ∀ j, compL (gNm 0) (orT (tstB (op1 oIsN (op2 oIx (nm 0) (cst (.int 2))))) (tstB (op2 (oIn false) (op2 oIx (nm 0) (cst (.int 2))) (nm 1)))) (nmV 0) (os.map opT) [j, some (.imm (namesT ns))] = some ((os.filter (free ns)).map opT)
  | [], _, j => rfl
  | o :: os, ho, j => by
    obtain ⟨a, b, z⟩ := o
    have ih := comp_free hn os (fun o h => ho o (by simp [h])) (some (.imm (opT (a, b, z))))
    cases z with
    | none =>
      simp [compL, runF, seq, iff, tstB, tstL, andT, orT, notT, cstT, ofT, op1, op2, opN, args, cst, nm, nmV, rtn, skip, asg, asgN, asgT, par, mkTup, mkLst, oIsN, oNotN, oIx, atZ, ixOf, gNm, gTu, gAll, itSeq, comp, capEnv, opT, zT, free] at ih ⊢
      exact ⟨_, ih, rfl⟩
    | some x =>
      have hx := ho (a, b, some x) (by simp) x rfl
      by_cases hm : x ∈ ns
      · simp [compL, runF, seq, iff, tstB, tstL, andT, orT, notT, cstT, ofT, op1, op2, opN, args, cst, nm, nmV, rtn, skip, asg, asgN, asgT, par, mkTup, mkLst, oIsN, oNotN, oIx, atZ, ixOf, gNm, gTu, gAll, itSeq, comp, capEnv, opT, zT, free, namesT, oIn_str _ _ _ hx hn, hm] at ih ⊢
        exact ih
      · simp [compL, runF, seq, iff, tstB, tstL, andT, orT, notT, cstT, ofT, op1, op2, opN, args, cst, nm, nmV, rtn, skip, asg, asgN, asgT, par, mkTup, mkLst, oIsN, oNotN, oIx, atZ, ixOf, gNm, gTu, gAll, itSeq, comp, capEnv, opT, zT, free, namesT, oIn_str _ _ _ hx hn, hm] at ih ⊢
        exact ih

/-! ### the search -/
def kv (r : List Int) : List (Key × T) := r.map fun x => (Sum.inl x, .bool true)
theorem hasD_kv (r : List Int) (t : Int) : hasD (kv r) (.inl t) = decide (t ∈ r) := by
  induction r with
  | nil => rfl
  | cons a r ih =>
    unfold hasD kv at ih ⊢
    rw [List.map_cons, List.any_cons, ih]
    by_cases e : a = t
    · simp [e]
    · have e' : ¬ t = a := fun z => e z.symm
      simp [e, e']
theorem putD_kv {r : List Int} {t : Int} (h : t ∉ r) : putD (kv r) (.inl t) (.bool true) = kv (r ++ [t]) := by
  have := hasD_kv r t
  unfold hasD at this
  unfold putD
  rw [this]
  simp [h, kv]
def bIn : Fs := seq (asg 7 (opN d_beyond [(nmV 6), (nmV 5)]))
    (iff (andT (tstB (op1 oNotN (nm 7))) (tstB (dIn true (nm 7) 3))) (seq (dPut 3 (nm 7) (cst (.bool true)))
    (app 4 (nmV 7))) skip)
def envU (h n u : T) (r w : List Int) (here : Option Sl) (j6 j7 : Option Sl) : Ev := [some (.imm h), some (.imm n), some (.imm u), some (.dic (kv r)), some (.own (w.map .int)), here, j6, j7]
theorem in_step (h n u : T) (r w : List Int) (here : Int) (o : Op) (j7 : Option Sl) (hr : r.length < 16777216) (hw : w.length < 16777216) :
    bIn (envU h n u r w (some (.imm (.int here))) (some (.imm (opT o))) j7) = some (.nx (match Hg.adj (edge o) here with
      | some t => if t ∈ r then envU h n u r w (some (.imm (.int here))) (some (.imm (opT o))) (some (.imm (.int t))) else envU h n u (r ++ [t]) (w ++ [t]) (some (.imm (.int here))) (some (.imm (opT o))) (some (.imm (.int t)))
      | none => envU h n u r w (some (.imm (.int here))) (some (.imm (opT o))) (some (.imm .none)))) := by
  have hb := beyond_eq o here
  cases ha : Hg.adj (edge o) here with
  | none =>
    rw [ha] at hb
    simp [bIn, envU, runF, seq, iff, tstB, tstL, andT, orT, notT, cstT, ofT, op1, op2, opN, args, cst, nm, nmV, rtn, skip, asg, asgN, asgT, par, mkTup, mkLst, oIsN, oNotN, oIx, atZ, ixOf, gNm, gTu, gAll, itSeq, comp, capEnv, hb, oT]
  | some t =>
    rw [ha] at hb
    by_cases hm : t ∈ r
    · simp [bIn, envU, runF, seq, iff, tstB, tstL, andT, orT, notT, cstT, ofT, op1, op2, opN, args, cst, nm, nmV, rtn, skip, asg, asgN, asgT, par, mkTup, mkLst, oIsN, oNotN, oIx, atZ, ixOf, gNm, gTu, gAll, itSeq, comp, capEnv, hb, oT, dIn, keyOf, dic?, hasD_kv, hm]
    · have hk : (kv r).length = r.length := by simp [kv]
      simp [bIn, envU, runF, seq, iff, tstB, tstL, andT, orT, notT, cstT, ofT, op1, op2, opN, args, cst, nm, nmV, rtn, skip, asg, asgN, asgT, par, mkTup, mkLst, oIsN, oNotN, oIx, atZ, ixOf, gNm, gTu, gAll, itSeq, comp, capEnv, hb, oT, dIn, dPut, app, keyOf, dic?, hasD_kv, putD_kv hm, hm, hk, hr, hw, big]
theorem in_sim (h n u : T) (here : Int) : ∀ (os : List Op) (r w : List Int) (j6 j7 : Option Sl), r.length + os.length < 16777216 → w.length + os.length < 16777216 →
    ∃ j6' j7', forL (gNm 6) bIn (os.map opT) (envU h n u r w (some (.imm (.int here))) j6 j7) = some (.nx (envU h n u (Hg.inner here (os.map edge) r w).1 (Hg.inner here (os.map edge) r w).2 (some (.imm (.int here))) j6' j7'))
  | [], r, w, j6, j7, _, _ => ⟨j6, j7, rfl⟩
  | o :: os, r, w, j6, j7, hr, hw => by
    simp only [List.length_cons] at hr hw
    have st := in_step h n u r w here o j7 (by omega) (by omega)
    have e0 : gNm 6 (opT o) (envU h n u r w (some (.imm (.int here))) j6 j7) = some (envU h n u r w (some (.imm (.int here))) (some (.imm (opT o))) j7) := rfl
    simp only [List.map_cons, forL, e0, Option.bind_some, st, Hg.inner]
    cases ha : Hg.adj (edge o) here with
    | none => exact in_sim h n u here os r w _ _ (by omega) (by omega)
    | some t =>
      by_cases hm : t ∈ r
      · simp only [hm, if_true]
        exact in_sim h n u here os r w _ _ (by omega) (by omega)
      · simp only [hm, if_false]
        exact in_sim h n u here os (r ++ [t]) (w ++ [t]) _ _ (by simp; omega) (by simp; omega)
def bOut : Fs := seq (pop 5 4)
    (for_ (itSeq (nmV 2)) (gNm 6)
    bIn)
theorem inner_len (h : Int) : ∀ (E : List (Int × Int)) (r w : List Int), r.length ≤ (Hg.inner h E r w).1.length ∧ (Hg.inner h E r w).2.length + r.length = (Hg.inner h E r w).1.length + w.length
  | [], r, w => ⟨Nat.le_refl _, by simp [Hg.inner]; omega⟩
  | e :: E, r, w => by
    unfold Hg.inner
    split
    next t _ =>
      split
      · exact inner_len h E r w
      · have := inner_len h E (r ++ [t]) (w ++ [t])
        simp only [List.length_append, List.length_cons, List.length_nil] at this
        omega
    next => exact inner_len h E r w
theorem bfs_len {E : List (Int × Int)} : ∀ (n : Nat) (r w : List Int) (r' : List Int), Hg.bfs E n r w = some r' → r.length ≤ r'.length
  | 0, r, w, r', e => by cases e
  | n + 1, r, w, r', e => by
    unfold Hg.bfs at e
    split at e
    · cases e
      exact Nat.le_refl _
    · exact Nat.le_trans (inner_len _ E r _).1 (bfs_len n _ _ r' e)
theorem out_sim (h n : T) (os : List Op) (hl : os.length ≤ 10) (r' : List Int) (h8 : r'.length ≤ 8) : ∀ (k : Nat) (r w : List Int) (j5 j6 j7 : Option Sl), Hg.bfs (os.map edge) k r w = some r' → w.length ≤ r.length →
    ∃ j5' j6' j7', whl (tstL (nm 4)) bOut k (envU h n (.list (os.map opT)) r w j5 j6 j7) = some (.nx (envU h n (.list (os.map opT)) r' [] j5' j6' j7'))
  | 0, r, w, j5, j6, j7, e, _ => by cases e
  | k + 1, r, w, j5, j6, j7, e, hw => by
    have hr := bfs_len _ r w r' e
    unfold Hg.bfs at e
    unfold whl
    cases hw' : w.getLast? with
    | none =>
      rw [hw'] at e
      cases e
      have : w = [] := List.getLast?_eq_none_iff.mp hw'
      subst this
      refine ⟨j5, j6, j7, ?_⟩
      simp [envU, tstL, nm]
    | some here =>
      rw [hw'] at e
      dsimp only at e
      have hne : w ≠ [] := fun z => by subst z; cases hw'
      have ht : tstL (nm 4) (envU h n (.list (os.map opT)) r w j5 j6 j7) = some true := by
        simp [envU, tstL, nm, hne]
      have hp : pop 5 4 (envU h n (.list (os.map opT)) r w j5 j6 j7) = some (.nx (envU h n (.list (os.map opT)) r w.dropLast (some (.imm (.int here))) j6 j7)) := by
        have : (w.map PyData.int).getLast? = some (.int here) := by rw [List.getLast?_map, hw']; rfl
        simp [pop, envU, this, List.map_dropLast]
      have hd : w.dropLast.length + 1 = w.length := by
        rw [List.length_dropLast]
        have := List.length_pos_iff.mpr hne
        omega
      obtain ⟨j6', j7', hs⟩ := in_sim h n (.list (os.map opT)) here os r w.dropLast j6 j7 (by omega) (by omega)
      have hit : itSeq (nmV 2) (envU h n (.list (os.map opT)) r w.dropLast (some (.imm (.int here))) j6 j7) = some (os.map opT) := by
        simp [itSeq, nmV, envU]
      have hb : bOut (envU h n (.list (os.map opT)) r w j5 j6 j7) = some (.nx (envU h n (.list (os.map opT)) (Hg.inner here (os.map edge) r w.dropLast).1 (Hg.inner here (os.map edge) r w.dropLast).2 (some (.imm (.int here))) j6' j7')) := by
        simp only [bOut, seq, hp, Option.bind_some, for_, hit, hs]
      have hln := inner_len here (os.map edge) r w.dropLast
      obtain ⟨a, b, c, z⟩ := out_sim h n os hl r' h8 k _ _ (some (.imm (.int here))) j6' j7' e (by omega)
      exact ⟨a, b, c, by simp only [ht, Option.bind_some, if_true, hb, z]⟩
def freeEdges (ns : List Str) (os : List Op) : List (Int × Int) := (os.filter (free ns)).map edge
theorem intsOf_kv (r : List Int) : intsOf ((kv r).map fun p => keyT p.1) = some r := by
  induction r with
  | nil => rfl
  | cons a r ih =>
    simp only [kv, List.map_cons, keyT, intsOf] at ih ⊢
    rw [ih]
    rfl
theorem unseen_eq {ns : List Str} (hn : StrsOk ns) {R : Int} {os : List Op} (ho : OpsOk os) (hl : os.length ≤ 10) {r : List Int} (hb : Hg.bfs (freeEdges ns os) 1000 [0] [0] = some r) (h8 : r.length ≤ 8) :
    d_unseen [houseT R os, namesT ns] = some (.tuple ((sortI r).map .int)) := by
  have hf : (os.filter (free ns)).length ≤ 10 := Nat.le_trans (List.length_filter_le _ _) hl
  obtain ⟨j5, j6, j7, hs⟩ := out_sim (houseT R os) (namesT ns) (os.filter (free ns)) hf r h8 1000 [0] [0] none none none hb (by simp)
  have hc := comp_free hn os ho none
  have hcomp : asg 2 (comp 1 [1] (itSeq (op2 oIx (nm 0) (cst (.int 1)))) (gNm 0) (orT (tstB (op1 oIsN (op2 oIx (nm 0) (cst (.int 2))))) (tstB (op2 (oIn false) (op2 oIx (nm 0) (cst (.int 2))) (nm 1)))) (nmV 0))
      [some (.imm (houseT R os)), some (.imm (namesT ns)), none, none, none, none, none, none] = some (.nx [some (.imm (houseT R os)), some (.imm (namesT ns)), some (.imm (.list ((os.filter (free ns)).map opT))), none, none, none, none, none]) := by
    have hit : itSeq (op2 oIx (nm 0) (cst (.int 1))) [some (.imm (houseT R os)), some (.imm (namesT ns)), none, none, none, none, none, none] = some (os.map opT) := by
      simp [itSeq, op2, nm, houseT, oIx, cst, atZ, ixOf]
    have hcap : capEnv 1 [1] [some (.imm (houseT R os)), some (.imm (namesT ns)), none, none, none, none, none, none] = [none, some (.imm (namesT ns))] := rfl
    simp only [asg, comp, hit, Option.bind_some, hcap, hc, List.length_map]
    rw [if_pos (by unfold big; omega)]
    rfl
  have h2 : dNew 3 (cst (.int 0)) (cst (.bool true)) [some (.imm (houseT R os)), some (.imm (namesT ns)), some (.imm (.list ((os.filter (free ns)).map opT))), none, none, none, none, none] = some (.nx [some (.imm (houseT R os)), some (.imm (namesT ns)), some (.imm (.list ((os.filter (free ns)).map opT))), some (.dic (kv [0])), none, none, none, none]) := rfl
  have h3 : asgN 4 (mkLst [(cst (.int 0))]) [some (.imm (houseT R os)), some (.imm (namesT ns)), some (.imm (.list ((os.filter (free ns)).map opT))), some (.dic (kv [0])), none, none, none, none] = some (.nx (envU (houseT R os) (namesT ns) (.list ((os.filter (free ns)).map opT)) [0] [0] none none none)) := by
    simp [asgN, mkLst, args, cst, big, envU]
  have h4 : rtn (opN oTuple [(dSorted 3)]) (envU (houseT R os) (namesT ns) (.list ((os.filter (free ns)).map opT)) r [] j5 j6 j7) = some (.rt (.tuple ((sortI r).map .int))) := by
    have hk : (kv r).length = r.length := by simp [kv]
    have hdc : dic? 3 (envU (houseT R os) (namesT ns) (.list ((os.filter (free ns)).map opT)) r [] j5 j6 j7) = some (kv r) := rfl
    simp only [rtn, opN, args, dSorted, hdc, Option.bind_some, hk]
    rw [if_pos (by omega), intsOf_kv]
    simp [oTuple]
  have e0 : d_unseen [houseT R os, namesT ns] = (b_unseen [some (.imm (houseT R os)), some (.imm (namesT ns)), none, none, none, none, none, none]).bind fun o => match o with | .rt t => some t | .nx _ => some .none | _ => none := rfl
  rw [e0]
  have hs2 : whl (tstL (nm 4)) (seq (pop 5 4)
    (for_ (itSeq (nmV 2)) (gNm 6)
    (seq (asg 7 (opN d_beyond [(nmV 6), (nmV 5)]))
    (iff (andT (tstB (op1 oNotN (nm 7))) (tstB (dIn true (nm 7) 3))) (seq (dPut 3 (nm 7) (cst (.bool true)))
    (app 4 (nmV 7))) skip)))) 1000 (envU (houseT R os) (namesT ns) (.list ((os.filter (free ns)).map opT)) [0] [0] none none none) = some (.nx (envU (houseT R os) (namesT ns) (.list ((os.filter (free ns)).map opT)) r [] j5 j6 j7)) := hs
  unfold b_unseen
  rw [seq_nx hcomp, seq_nx h2, seq_nx h3, seq_nx hs2, h4]
  rfl

/-! ### the zones -/
theorem comp_zones : ∀ (os : List Op) (j : Option Sl), compL (gNm 0) (tstB (op1 oNotN (op2 oIx (nm 0) (cst (.int 2))))) (op2 oIx (nm 0) (cst (.int 2))) (os.map opT) [j] = some ((os.filterMap (·.2.2)).map .str)
  | [], j => rfl
  | (a, b, none) :: os, j => by
    have ih := comp_zones os (some (.imm (opT (a, b, none))))
    simp [compL, runF, seq, iff, tstB, tstL, andT, orT, notT, cstT, ofT, op1, op2, opN, args, cst, nm, nmV, rtn, skip, asg, asgN, asgT, par, mkTup, mkLst, oIsN, oNotN, oIx, atZ, ixOf, gNm, gTu, gAll, itSeq, comp, capEnv, opT, zT] at ih ⊢
    exact ih
  | (a, b, some x) :: os, j => by
    have ih := comp_zones os (some (.imm (opT (a, b, some x))))
    simp [compL, runF, seq, iff, tstB, tstL, andT, orT, notT, cstT, ofT, op1, op2, opN, args, cst, nm, nmV, rtn, skip, asg, asgN, asgT, par, mkTup, mkLst, oIsN, oNotN, oIx, atZ, ixOf, gNm, gTu, gAll, itSeq, comp, capEnv, opT, zT] at ih ⊢
    exact ih
def zonesL (os : List Op) : List Str := sortS (dedup (os.filterMap (·.2.2)))
theorem intsOf_strs : ∀ (ss : List Str), ss ≠ [] → intsOf (ss.map .str) = none
  | [], h => absurd rfl h
  | x :: r, _ => rfl
theorem strsOf_strs : ∀ (ss : List Str), strsOf (ss.map .str) = some ss
  | [] => rfl
  | x :: r => by
    simp only [List.map_cons, strsOf, strsOf_strs r]
    rfl
theorem zones_eq {R : Int} {os : List Op} (hl : os.length ≤ 10) : d_zones_of [houseT R os] = some (.tuple ((zonesL os).map .str)) := by
  have hit : itSeq (op2 oIx (nm 0) (cst (.int 1))) [some (.imm (houseT R os))] = some (os.map opT) := by
    simp [itSeq, op2, nm, houseT, oIx, cst, atZ, ixOf]
  have hcap : capEnv 1 [] [some (.imm (houseT R os))] = [none] := rfl
  have hc : comp 1 [] (itSeq (op2 oIx (nm 0) (cst (.int 1)))) (gNm 0) (tstB (op1 oNotN (op2 oIx (nm 0) (cst (.int 2))))) (op2 oIx (nm 0) (cst (.int 2))) [some (.imm (houseT R os))] = some (.list ((os.filterMap (·.2.2)).map .str)) := by
    simp only [comp, hit, Option.bind_some, hcap, comp_zones, List.length_map]
    rw [if_pos (by unfold big; omega)]
    rfl
  have hz : (os.filterMap (·.2.2)).length < 64 := Nat.lt_of_le_of_lt (List.length_filterMap_le _ _) (by omega)
  have hs : oSortedSetL [.list ((os.filterMap (·.2.2)).map .str)] = some (.list ((zonesL os).map .str)) := by
    unfold oSortedSetL
    simp only [List.length_map]
    rw [if_pos hz]
    by_cases he : os.filterMap (·.2.2) = []
    · simp only [zonesL, he]
      rfl
    · rw [intsOf_strs _ he, strsOf_strs]
      rfl
  have e0 : d_zones_of [houseT R os] = (b_zones_of [some (.imm (houseT R os))]).bind fun o => match o with | .rt t => some t | .nx _ => some .none | _ => none := rfl
  rw [e0]
  simp only [b_zones_of, rtn, opN, args, hc, Option.bind_some, Option.map_some, hs, oTuple]
end Ho
end
section
set_option linter.all false
set_option maxHeartbeats 1000000
namespace Ho
open PySem D
/-! ### the ways -/
def wT (w : List Nat) : T := .tuple (w.map fun (k : Nat) => PyData.int (k : Int))
def bW (rec : List T → Option T) : Fs := (seq (asg 6 (opN d_beyond [(nmV 5), (op2 oIx (nm 2) (op1 oNeg (cst (.int 1))))]))
    (iff (andT (tstB (op1 oNotN (nm 6))) (tstB (op2 (oIn true) (nm 6) (nm 2)))) (ext 3 (comp 1 [4] (itSeq (opN rec [(nmV 0), (nmV 1), (op2 oAdd (nm 2) (mkTup [(nmV 6)]))])) (gNm 0) (cstT true) (op2 oAdd (mkTup [(nmV 1)]) (nm 0)))) skip))
def envW (h : T) (room : Int) (pl : List Int) (acc : List (List Nat)) (j4 j5 j6 : Option Sl) : Ev := [some (.imm h), some (.imm (.int room)), some (.imm (.tuple (pl.map .int))), some (.own (acc.map wT)), j4, j5, j6]
theorem comp_ext (k : Nat) : ∀ (ws : List (List Nat)) (j : Option Sl), (∀ w ∈ ws, w.length ≤ 100) → compL (gNm 0) (cstT true) (op2 oAdd (mkTup [(nmV 1)]) (nm 0)) (ws.map wT) [j, some (.imm (.int k))] = some ((ws.map fun w => k :: w).map wT)
  | [], j, _ => rfl
  | w :: ws, j, h => by
    have ih := comp_ext k ws (some (.imm (wT w))) fun w hw => h w (by simp [hw])
    have hw := h w (by simp)
    have e1 : op2 oAdd (mkTup [(nmV 1)]) (nm 0) [some (.imm (wT w)), some (.imm (.int k))] = some (wT (k :: w)) := by
      have : 1 + w.length ≤ 16777216 := by omega
      simp [op2, mkTup, args, nmV, nm, big, wT, oAdd, this]
    have e0 : gNm 0 (wT w) [j, some (.imm (.int k))] = some [some (.imm (wT w)), some (.imm (.int k))] := rfl
    simp only [List.map_cons, compL, e0, Option.bind_some, cstT, if_true, e1, ih, Option.map_some]
theorem last_ix {pl : List Int} {h : Int} (hp : pl.getLast? = some h) : atZ (pl.map PyData.int) (-1) = some (.int h) := by
  have hne : pl ≠ [] := fun z => by subst z; cases hp
  have hl := List.length_pos_iff.mpr hne
  have hx : ixOf (pl.map PyData.int).length (-1) = some (pl.length - 1) := by
    unfold ixOf
    rw [if_neg (by decide), List.length_map, if_pos (by omega)]
    congr 1
    omega
  unfold atZ
  rw [hx]
  simp only [Option.bind_some, List.getElem?_map]
  rw [← List.getLast?_eq_getElem?, hp]
  rfl
theorem w_step {rec : List T → Option T} {recP : List Int → Option (List (List Nat))} (hT : T) (room : Int) (pl : List Int) (h : Int) (hp : pl.getLast? = some h) (hpl : pl.length ≤ 100)
    (o : Op) (k : Nat) (acc : List (List Nat)) (j6 : Option Sl) (vs : List (List Nat))
    (hv : (match Hg.adj (edge o) h with | some t => if t ∈ pl then some [] else (recP (pl ++ [t])).map fun ws => ws.map fun w => k :: w | none => some []) = some vs)
    (hr : ∀ t ws, t ∉ pl → recP (pl ++ [t]) = some ws → ws.length ≤ vs.length → rec [hT, .int room, .tuple ((pl ++ [t]).map .int)] = some (.list (ws.map wT)) ∧ ∀ w ∈ ws, w.length ≤ 100) (hz : acc.length + vs.length ≤ 16777216) :
    ∃ j6', bW rec (envW hT room pl acc (some (.imm (.int k))) (some (.imm (opT o))) j6) = some (.nx (envW hT room pl (acc ++ vs) (some (.imm (.int k))) (some (.imm (opT o))) j6')) := by
  have hb := beyond_eq o h
  have hi := last_ix hp
  have e1 : opN d_beyond [(nmV 5), (op2 oIx (nm 2) (op1 oNeg (cst (.int 1))))] (envW hT room pl acc (some (.imm (.int k))) (some (.imm (opT o))) j6) = some (oT (Hg.adj (edge o) h)) := by
    have : op2 oIx (nm 2) (op1 oNeg (cst (.int 1))) (envW hT room pl acc (some (.imm (.int k))) (some (.imm (opT o))) j6) = some (.int h) := by
      simp only [op2, nm, envW, List.getElem?_cons_succ, List.getElem?_cons_zero, Option.bind_some, op1, cst, oNeg, oIx]
      exact hi
    have n5 : nmV 5 (envW hT room pl acc (some (.imm (.int k))) (some (.imm (opT o))) j6) = some (opT o) := rfl
    simp only [opN, args, this, n5, Option.bind_some, Option.map_some]
    exact hb
  have e2 : asg 6 (opN d_beyond [(nmV 5), (op2 oIx (nm 2) (op1 oNeg (cst (.int 1))))]) (envW hT room pl acc (some (.imm (.int k))) (some (.imm (opT o))) j6) = some (.nx (envW hT room pl acc (some (.imm (.int k))) (some (.imm (opT o))) (some (.imm (oT (Hg.adj (edge o) h)))))) := by
    simp only [asg, e1, Option.map_some]
    rfl
  refine ⟨some (.imm (oT (Hg.adj (edge o) h))), ?_⟩
  unfold bW
  rw [seq_nx e2]
  cases ha : Hg.adj (edge o) h with
  | none =>
    rw [ha] at hv
    cases hv
    simp [iff, andT, tstB, op1, oNotN, nm, envW, oT, skip]
  | some t =>
    rw [ha] at hv
    by_cases hm : t ∈ pl
    · simp only [hm, if_true] at hv
      cases hv
      simp [iff, andT, tstB, op1, op2, oNotN, nm, envW, oT, skip, oIn_int, hm]
    · simp only [hm, if_false, Option.map_eq_some_iff] at hv
      obtain ⟨ws, hws, rfl⟩ := hv
      simp only [List.length_map] at hz hr
      obtain ⟨h1, h2⟩ := hr t ws hm hws (Nat.le_refl _)
      have c1 : andT (tstB (op1 oNotN (nm 6))) (tstB (op2 (oIn true) (nm 6) (nm 2))) (envW hT room pl acc (some (.imm (.int k))) (some (.imm (opT o))) (some (.imm (oT (some t))))) = some true := by
        simp [andT, tstB, op1, op2, oNotN, nm, envW, oT, oIn_int, hm]
      have a1 : op2 oAdd (nm 2) (mkTup [(nmV 6)]) (envW hT room pl acc (some (.imm (.int k))) (some (.imm (opT o))) (some (.imm (oT (some t))))) = some (.tuple ((pl ++ [t]).map .int)) := by
        have : pl.length + 1 ≤ 16777216 := by omega
        simp [op2, nm, nmV, envW, mkTup, args, big, oT, oAdd, this]
      have it1 : itSeq (opN rec [(nmV 0), (nmV 1), (op2 oAdd (nm 2) (mkTup [(nmV 6)]))]) (envW hT room pl acc (some (.imm (.int k))) (some (.imm (opT o))) (some (.imm (oT (some t))))) = some (ws.map wT) := by
        have n0 : nmV 0 (envW hT room pl acc (some (.imm (.int k))) (some (.imm (opT o))) (some (.imm (oT (some t))))) = some hT := rfl
        have n1 : nmV 1 (envW hT room pl acc (some (.imm (.int k))) (some (.imm (opT o))) (some (.imm (oT (some t))))) = some (.int room) := rfl
        simp only [itSeq, opN, args, a1, n0, n1, Option.bind_some, Option.map_some, h1]
      have cp : comp 1 [4] (itSeq (opN rec [(nmV 0), (nmV 1), (op2 oAdd (nm 2) (mkTup [(nmV 6)]))])) (gNm 0) (cstT true) (op2 oAdd (mkTup [(nmV 1)]) (nm 0)) (envW hT room pl acc (some (.imm (.int k))) (some (.imm (opT o))) (some (.imm (oT (some t))))) = some (.list ((ws.map fun w => k :: w).map wT)) := by
        simp only [comp, it1, Option.bind_some, List.length_map]
        rw [if_pos (by unfold big; omega)]
        have : capEnv 1 [4] (envW hT room pl acc (some (.imm (.int k))) (some (.imm (opT o))) (some (.imm (oT (some t))))) = [none, some (.imm (.int k))] := rfl
        rw [this, comp_ext k ws none h2]
        rfl
      simp only [iff, c1, Option.bind_some, if_true, ext, cp]
      simp only [envW, List.getElem?_cons_succ, List.getElem?_cons_zero, List.length_map]
      rw [if_pos (by unfold big; omega)]
      simp
theorem ext_sim {rec : List T → Option T} {recP : List Int → Option (List (List Nat))} (hT : T) (room : Int) (pl : List Int) (h : Int) (hp : pl.getLast? = some h) (hpl : pl.length ≤ 100) (N : Nat) (hN : N ≤ 16777216)
    (hr : ∀ t ws, t ∉ pl → recP (pl ++ [t]) = some ws → ws.length ≤ N → rec [hT, .int room, .tuple ((pl ++ [t]).map .int)] = some (.list (ws.map wT)) ∧ ∀ w ∈ ws, w.length ≤ 100) :
    ∀ (os : List Op) (k : Nat) (acc vs : List (List Nat)) (j4 j5 j6 : Option Sl), Hg.exts recP pl h k (os.map edge) = some vs → acc.length + vs.length ≤ N →
      ∃ j4' j5' j6', forL (gTu [(gNm 4), (gNm 5)]) (bW rec) (((os.map opT).zipIdx k).map fun p => .tuple [.int p.2, p.1]) (envW hT room pl acc j4 j5 j6) = some (.nx (envW hT room pl (acc ++ vs) j4' j5' j6'))
  | [], k, acc, vs, j4, j5, j6, e, _ => by
    cases e
    exact ⟨j4, j5, j6, by simp [forL]⟩
  | o :: os, k, acc, vs, j4, j5, j6, e, hz => by
    have key : ∃ v1 v2, (match Hg.adj (edge o) h with | some t => if t ∈ pl then some [] else (recP (pl ++ [t])).map fun ws => ws.map fun w => k :: w | none => some []) = some v1 ∧ Hg.exts recP pl h (k + 1) (os.map edge) = some v2 ∧ vs = v1 ++ v2 := by
      rw [List.map_cons] at e
      unfold Hg.exts at e
      cases ha : Hg.adj (edge o) h with
      | none =>
        rw [ha] at e
        exact ⟨[], vs, rfl, e, rfl⟩
      | some t =>
        rw [ha] at e
        by_cases hm : t ∈ pl
        · simp only [hm, if_true] at e ⊢
          exact ⟨[], vs, rfl, e, rfl⟩
        · simp only [hm, if_false, Option.bind_eq_some_iff, Option.map_eq_some_iff] at e ⊢
          obtain ⟨ws, h1, v2, h2, rfl⟩ := e
          exact ⟨_, v2, ⟨ws, h1, rfl⟩, h2, rfl⟩
    obtain ⟨v1, v2, h1, h2, rfl⟩ := key
    rw [List.length_append] at hz
    obtain ⟨j6', hs⟩ := w_step (rec := rec) (recP := recP) hT room pl h hp hpl o k acc j6 v1 h1 (fun t ws a b c => hr t ws a b (by omega)) (by omega)
    obtain ⟨a, b, c, ih⟩ := ext_sim (rec := rec) (recP := recP) hT room pl h hp hpl N hN hr os (k + 1) (acc ++ v1) v2 (some (.imm (.int k))) (some (.imm (opT o))) j6' h2 (by rw [List.length_append]; omega)
    refine ⟨a, b, c, ?_⟩
    have e0 : gTu [(gNm 4), (gNm 5)] (.tuple [.int k, opT o]) (envW hT room pl acc j4 j5 j6) = some (envW hT room pl acc (some (.imm (.int k))) (some (.imm (opT o))) j6) := rfl
    rw [List.map_cons, List.zipIdx_cons, List.map_cons]
    simp only [forL, e0, Option.bind_some, hs]
    rw [ih, List.append_assoc]
theorem ways_lens {E : List (Int × Int)} {room : Int} : ∀ (n : Nat) (pl : List Int) (ws : List (List Nat)), Hg.waysP E room n pl = some ws → ∀ w ∈ ws, w.length ≤ n := by
  have ex : ∀ (n : Nat) (rec : List Int → Option (List (List Nat))) (pl : List Int) (h : Int), (∀ q ws, rec q = some ws → ∀ w ∈ ws, w.length ≤ n) → ∀ (E : List (Int × Int)) (k : Nat) (ws : List (List Nat)), Hg.exts rec pl h k E = some ws → ∀ w ∈ ws, w.length ≤ n + 1 := by
    intro n rec pl h hr E
    induction E with
    | nil =>
      intro k ws e w hw
      cases e
      cases hw
    | cons e0 E ih =>
      intro k ws e w hw
      unfold Hg.exts at e
      split at e
      · split at e
        · exact ih _ _ e w hw
        · simp only [Option.bind_eq_some_iff, Option.map_eq_some_iff] at e
          obtain ⟨us, h1, v2, h2, rfl⟩ := e
          rcases List.mem_append.mp hw with q | q
          · obtain ⟨u, hu, rfl⟩ := List.mem_map.mp q
            have := hr _ _ h1 u hu
            simp
            omega
          · exact ih _ _ h2 w q
      · exact ih _ _ e w hw
  intro n
  induction n with
  | zero =>
    intro pl ws e
    cases e
  | succ n ih =>
    intro pl ws e w hw
    unfold Hg.waysP at e
    split at e
    · cases e
    · split at e
      · cases e
        simp at hw
        subst hw
        simp
      · exact ex n _ _ _ (fun q ws e => ih q ws e) _ _ _ e w hw
theorem ways_on_eq {R : Int} {os : List Op} {room : Int} : ∀ (n : Nat) (pl : List Int) (ws : List (List Nat)), n + pl.length ≤ 90 → Hg.waysP (os.map edge) room n pl = some ws → ws.length ≤ 16777216 →
    d_ways_on n [houseT R os, .int room, .tuple (pl.map .int)] = some (.list (ws.map wT))
  | 0, pl, ws, hn, e, _ => by cases e
  | n + 1, pl, ws, hn, e, hz => by
    have e0 : d_ways_on (n + 1) [houseT R os, .int room, .tuple (pl.map .int)] = (b_ways_on (d_ways_on n) [some (.imm (houseT R os)), some (.imm (.int room)), some (.imm (.tuple (pl.map .int))), none, none, none, none]).bind fun o => match o with | .rt t => some t | .nx _ => some .none | _ => none := rfl
    rw [e0]
    unfold Hg.waysP at e
    cases hp : pl.getLast? with
    | none =>
      rw [hp] at e
      cases e
    | some h =>
      rw [hp] at e
      dsimp only at e
      have hi := last_ix hp
      have c0 : tstB (op2 oEq (op2 oIx (nm 2) (op1 oNeg (cst (.int 1)))) (nm 1)) [some (.imm (houseT R os)), some (.imm (.int room)), some (.imm (.tuple (pl.map .int))), none, none, none, none] = some (decide (h = room)) := by
        simp only [tstB, op2, nm, List.getElem?_cons_succ, List.getElem?_cons_zero, Option.bind_some, op1, cst, oNeg, oIx, hi, oEq_int]
      unfold b_ways_on
      by_cases hr : h = room
      · rw [if_pos hr] at e
        cases e
        simp only [seq, iff, c0, hr, Option.bind_some, decide_true, if_true, rtn, mkLst, mkTup, args, Option.map_some]
        simp [big, wT]
      · rw [if_neg hr] at e
        have s1 : iff (tstB (op2 oEq (op2 oIx (nm 2) (op1 oNeg (cst (.int 1)))) (nm 1))) (rtn (mkLst [(mkTup [])])) skip [some (.imm (houseT R os)), some (.imm (.int room)), some (.imm (.tuple (pl.map .int))), none, none, none, none] = some (.nx [some (.imm (houseT R os)), some (.imm (.int room)), some (.imm (.tuple (pl.map .int))), none, none, none, none]) := by
          simp only [iff, c0, hr, Option.bind_some, decide_false, Bool.false_eq_true, if_false, skip]
        have s2 : asgN 3 (mkLst []) [some (.imm (houseT R os)), some (.imm (.int room)), some (.imm (.tuple (pl.map .int))), none, none, none, none] = some (.nx (envW (houseT R os) room pl [] none none none)) := by
          simp [asgN, mkLst, args, big, envW]
        obtain ⟨a, b, c, hs⟩ := ext_sim (rec := d_ways_on n) (recP := Hg.waysP (os.map edge) room n) (houseT R os) room pl h hp (by omega) ws.length hz
          (fun t ws' _ h2 h3 => ⟨ways_on_eq n (pl ++ [t]) ws' (by simp; omega) h2 (by omega), fun w hw => Nat.le_trans (ways_lens n _ _ h2 w hw) (by omega)⟩) os 0 [] ws none none none e (by simp)
        have it : itEnum (itTup (op2 oIx (nm 0) (cst (.int 1)))) (envW (houseT R os) room pl [] none none none) = some (((os.map opT).zipIdx 0).map fun p => .tuple [.int p.2, p.1]) := by
          simp [itEnum, itTup, op2, nm, envW, houseT, cst, oIx, atZ, ixOf, enum]
        have s3 : for_ (itEnum (itTup (op2 oIx (nm 0) (cst (.int 1))))) (gTu [(gNm 4), (gNm 5)]) (bW (d_ways_on n)) (envW (houseT R os) room pl [] none none none) = some (.nx (envW (houseT R os) room pl ws a b c)) := by
          simp only [for_, it, Option.bind_some]
          exact hs
        rw [seq_nx s1, seq_nx s2]
        have s4 : seq (for_ (itEnum (itTup (op2 oIx (nm 0) (cst (.int 1))))) (gTu [(gNm 4), (gNm 5)]) (bW (d_ways_on n))) (rtn (nm 3)) (envW (houseT R os) room pl [] none none none) = some (.rt (.list (ws.map wT))) := by
          rw [seq_nx s3]
          simp [rtn, nm, envW]
        have s5 := congrArg (fun x : Option Out => x.bind fun o => match o with | .rt t => some t | .nx _ => some .none | _ => none) s4
        exact s5
theorem ways_eq {R : Int} {os : List Op} {room : Int} {ws : List (List Nat)} (h : Hg.waysP (os.map edge) room 20 [0] = some ws) (hz : ws.length ≤ 16777216) : d_ways [houseT R os, .int room] = some (.tuple (ws.map wT)) := by
  have h1 := ways_on_eq (R := R) 20 [0] ws (by decide) h hz
  have e0 : d_ways [houseT R os, .int room] = (b_ways [some (.imm (houseT R os)), some (.imm (.int room))]).bind fun o => match o with | .rt t => some t | .nx _ => some .none | _ => none := rfl
  rw [e0]
  have a1 : args [(nmV 0), (nmV 1), (mkTup [(cst (.int 0))])] [some (.imm (houseT R os)), some (.imm (.int room))] = some [houseT R os, .int room, .tuple ([0].map .int)] := by
    simp [args, nmV, mkTup, cst, big]
  simp only [b_ways, rtn, opN, args] at a1 ⊢
  rw [a1]
  simp only [Option.bind_some, h1, Option.map_some, oTuple]
end Ho
end
section
set_option linter.all false
set_option maxHeartbeats 2000000
namespace Ho
open PySem D
/-! ### the drawn house -/
def scriptT (ns : List Int) : T := .list (ns.map .int)
theorem cell_eq (ns : List Int) (k : Nat) : d_l_cell_at [scriptT ns, .int k] = some (.int (ns.getD k 0)) := by
  by_cases h : k < ns.length
  · have h' : (k : Int) < (ns.length : Int) := by omega
    simp [d_l_cell_at, b_l_cell_at, scriptT, runF, seq, iff, tstB, tstL, andT, orT, notT, cstT, ofT, op1, op2, opN, args, cst, nm, nmV, rtn, skip, asg, asgN, asgT, par, mkTup, mkLst, oIsN, oNotN, oIx, atZ, ixOf, gNm, gTu, gAll, itSeq, comp, capEnv, oAdd, oSub, oMul, oDiv, oMod, oNeg, oLen, oMin, oMax, oTuple, oList, oInt, oLt, oLe, oGt, oGe, big, h, h', List.getD]
  · have h' : ¬ (k : Int) < (ns.length : Int) := by omega
    simp [d_l_cell_at, b_l_cell_at, scriptT, runF, seq, iff, tstB, tstL, andT, orT, notT, cstT, ofT, op1, op2, opN, args, cst, nm, nmV, rtn, skip, asg, asgN, asgT, par, mkTup, mkLst, oIsN, oNotN, oIx, atZ, ixOf, gNm, gTu, gAll, itSeq, comp, capEnv, oAdd, oSub, oMul, oDiv, oMod, oNeg, oLen, oMin, oMax, oTuple, oList, oInt, oLt, oLe, oGt, oGe, big, h, h', List.getD]
theorem mul_ok {i j : Int} (h : -(2 ^ 64) < j ∧ j < 2 ^ 64) : oMul (.int i) (.int j) = some (.int (i * j)) := by
  unfold oMul mulOk
  simp only [decide_eq_true h.1, decide_eq_true h.2, Bool.and_self, Bool.or_true, if_true]
theorem mod_ok {i j : Int} (h : 0 < j) : oMod (.int i) (.int j) = some (.int (i % j)) := if_pos h
theorem div_ok {i j : Int} (h : 0 < j ∧ j < 1073741824) : oDiv (.int i) (.int j) = some (.int (i / j)) := if_pos h
theorem add_ok {i j : Int} : oAdd (.int i) (.int j) = some (.int (i + j)) := rfl
theorem ix0 {α : Type} {a : α} {r : List α} : (a :: r)[0]? = some a := rfl
theorem mixed_eq (ns : List Int) (k : Nat) : ∃ m : Int, 0 ≤ m ∧ d_l_mixed [scriptT ns, .int k] = some (.int m) := by
  have hc := cell_eq ns k
  have hd : 0 ≤ (ns.getD k 0 + 7919 * (k : Int) + 1) * 48271 % 2147483647 ∧ (ns.getD k 0 + 7919 * (k : Int) + 1) * 48271 % 2147483647 < 2147483647 := ⟨Int.emod_nonneg _ (by decide), Int.emod_lt_of_pos _ (by decide)⟩
  generalize hx : (ns.getD k 0 + 7919 * (k : Int) + 1) * 48271 % 2147483647 = d at hd
  refine ⟨(d * d + 7 * d + k) % 2147483629, Int.emod_nonneg _ (by decide), ?_⟩
  have e0 : d_l_mixed [scriptT ns, .int k] = (b_l_mixed [some (.imm (scriptT ns)), some (.imm (.int k)), none]).bind fun o => match o with | .rt t => some t | .nx _ => some .none | _ => none := rfl
  have m1 : oMul (.int 7919) (.int k) = some (.int (7919 * k)) := by
    unfold oMul mulOk
    simp
  have n0 : nmV 0 [some (.imm (scriptT ns)), some (.imm (.int k)), none] = some (scriptT ns) := rfl
  have n1 : nmV 1 [some (.imm (scriptT ns)), some (.imm (.int k)), none] = some (.int k) := rfl
  have n1' : nm 1 [some (.imm (scriptT ns)), some (.imm (.int k)), none] = some (.int k) := rfl
  have s1 : asg 2 (op2 oMod (op2 oMul (op2 oAdd (op2 oAdd (opN d_l_cell_at [(nmV 0), (nmV 1)]) (op2 oMul (cst (.int 7919)) (nm 1))) (cst (.int 1))) (cst (.int 48271))) (cst (.int 2147483647))) [some (.imm (scriptT ns)), some (.imm (.int k)), none] = some (.nx [some (.imm (scriptT ns)), some (.imm (.int k)), some (.imm (.int d))]) := by
    simp only [asg, op2, opN, args, n0, n1, n1', Option.bind_some, Option.map_some, hc, cst, m1, add_ok, mul_ok (i := ns.getD k 0 + 7919 * (k : Int) + 1) (j := 48271) (by decide), mod_ok (j := 2147483647) (by decide), hx]
    rfl
  have m2 : oMul (.int d) (.int d) = some (.int (d * d)) := mul_ok (by omega)
  have m3 : oMul (.int 7) (.int d) = some (.int (7 * d)) := mul_ok (by omega)
  rw [e0]
  unfold b_l_mixed
  rw [seq_nx s1]
  have q2 : nm 2 [some (.imm (scriptT ns)), some (.imm (.int k)), some (.imm (.int d))] = some (.int d) := rfl
  have q1 : nm 1 [some (.imm (scriptT ns)), some (.imm (.int k)), some (.imm (.int d))] = some (.int k) := rfl
  simp only [rtn, op2, q2, q1, Option.bind_some, Option.map_some, cst, m2, m3, add_ok, mod_ok (j := 2147483629) (by decide)]
theorem drawn_eq (n k : Int) (hk : -(2 ^ 64) < k ∧ k < 2 ^ 64) : ∃ m : Int, 0 ≤ m ∧ d_l_drawn [.int n, .int k] = some (.int m) := by
  have hd : 0 ≤ (n + 104729 * k + 17) * 69621 % 2147483647 ∧ (n + 104729 * k + 17) * 69621 % 2147483647 < 2147483647 := ⟨Int.emod_nonneg _ (by decide), Int.emod_lt_of_pos _ (by decide)⟩
  generalize hx : (n + 104729 * k + 17) * 69621 % 2147483647 = d at hd
  refine ⟨(d * d + 3 * d + k) % 2147483629, Int.emod_nonneg _ (by decide), ?_⟩
  have e0 : d_l_drawn [.int n, .int k] = (b_l_drawn [some (.imm (.int n)), some (.imm (.int k)), none]).bind fun o => match o with | .rt t => some t | .nx _ => some .none | _ => none := rfl
  have m1 : oMul (.int 104729) (.int k) = some (.int (104729 * k)) := mul_ok hk
  have n0 : nm 0 [some (.imm (.int n)), some (.imm (.int k)), none] = some (.int n) := rfl
  have n1 : nm 1 [some (.imm (.int n)), some (.imm (.int k)), none] = some (.int k) := rfl
  have s1 : asg 2 (op2 oMod (op2 oMul (op2 oAdd (op2 oAdd (nm 0) (op2 oMul (cst (.int 104729)) (nm 1))) (cst (.int 17))) (cst (.int 69621))) (cst (.int 2147483647))) [some (.imm (.int n)), some (.imm (.int k)), none] = some (.nx [some (.imm (.int n)), some (.imm (.int k)), some (.imm (.int d))]) := by
    simp only [asg, op2, n0, n1, Option.bind_some, Option.map_some, cst, m1, add_ok, mul_ok (i := n + 104729 * k + 17) (j := 69621) (by decide), mod_ok (j := 2147483647) (by decide), hx]
    rfl
  have m2 : oMul (.int d) (.int d) = some (.int (d * d)) := mul_ok (by omega)
  have m3 : oMul (.int 3) (.int d) = some (.int (3 * d)) := mul_ok (by omega)
  rw [e0]
  unfold b_l_drawn
  rw [seq_nx s1]
  have q2 : nm 2 [some (.imm (.int n)), some (.imm (.int k)), some (.imm (.int d))] = some (.int d) := rfl
  have q1 : nm 1 [some (.imm (.int n)), some (.imm (.int k)), some (.imm (.int d))] = some (.int k) := rfl
  simp only [rtn, op2, q2, q1, Option.bind_some, Option.map_some, cst, m2, m3, add_ok, mod_ok (j := 2147483629) (by decide)]
/-- what a drawn house keeps to -/
def names5 : List Str := ["a", "b", "back", "hall", "win"]
def OpOk (R : Int) (o : Op) : Prop := 0 ≤ o.1 ∧ o.1 < o.2.1 ∧ o.2.1 ≤ R ∧ ∀ x, o.2.2 = some x → x ∈ names5
structure Drawn (R : Int) (os : List Op) : Prop where
  r1 : 1 ≤ R
  r7 : R ≤ 7
  len : os.length ≤ 10
  ok : ∀ o ∈ os, OpOk R o
def bH : Fs := (seq (asg 4 (op2 oDiv (opN d_l_drawn [(nmV 0), (op2 oAdd (cst (.int 50)) (nm 3))]) (cst (.int 4))))
    (seq (asg 5 (op2 oMod (nm 4) (op2 oAdd (nm 1) (cst (.int 1)))))
    (seq (asg 6 (op2 oMod (op2 oAdd (op2 oAdd (nm 5) (cst (.int 1))) (op2 oMod (op2 oDiv (nm 4) (cst (.int 8))) (nm 1))) (op2 oAdd (nm 1) (cst (.int 1)))))
    (seq (asg 7 (op2 oIx (mkTup [(cst .none), (cst .none), (cst (.str "a")), (cst (.str "b")), (cst (.str "back")), (cst (.str "hall")), (cst (.str "win"))]) (op2 oMod (op2 oDiv (nm 4) (cst (.int 64))) (cst (.int 7)))))
    (asg 2 (op2 oAdd (nm 2) (mkTup [(mkTup [(opN oMin [(nm 5), (nm 6)]), (opN oMax [(nm 5), (nm 6)]), (nmV 7)])])))))))
def envH (n R : Int) (os : List Op) (j3 j4 j5 j6 j7 : Option Sl) : Ev := [some (.imm (.int n)), some (.imm (.int R)), some (.imm (.tuple (os.map opT))), j3, j4, j5, j6, j7]
theorem zone_ix (i : Int) (h0 : 0 ≤ i) (h7 : i < 7) (ε : Ev) : ∃ z : Option Str, (mkTup [(cst .none), (cst .none), (cst (.str "a")), (cst (.str "b")), (cst (.str "back")), (cst (.str "hall")), (cst (.str "win"))] ε).bind (fun t => oIx t (.int i)) = some (zT z) ∧ ∀ x, z = some x → x ∈ names5 := by
  have hc : i = 0 ∨ i = 1 ∨ i = 2 ∨ i = 3 ∨ i = 4 ∨ i = 5 ∨ i = 6 := by omega
  have e : mkTup [(cst .none), (cst .none), (cst (.str "a")), (cst (.str "b")), (cst (.str "back")), (cst (.str "hall")), (cst (.str "win"))] ε = some (.tuple [.none, .none, .str "a", .str "b", .str "back", .str "hall", .str "win"]) := by
    simp [mkTup, args, cst, big]
  rw [e]
  rcases hc with rfl | rfl | rfl | rfl | rfl | rfl | rfl
  · exact ⟨none, rfl, fun x h => by cases h⟩
  · exact ⟨none, rfl, fun x h => by cases h⟩
  · exact ⟨some "a", rfl, fun x h => by cases h; simp [names5]⟩
  · exact ⟨some "b", rfl, fun x h => by cases h; simp [names5]⟩
  · exact ⟨some "back", rfl, fun x h => by cases h; simp [names5]⟩
  · exact ⟨some "hall", rfl, fun x h => by cases h; simp [names5]⟩
  · exact ⟨some "win", rfl, fun x h => by cases h; simp [names5]⟩
theorem house_step (n R : Int) (h1 : 1 ≤ R) (h7 : R ≤ 7) (os : List Op) (hl : os.length < 1000) (k : Int) (hk : 0 ≤ k ∧ k < 1000) (j4 j5 j6 j7 : Option Sl) :
    ∃ o j4' j5' j6' j7', OpOk R o ∧ bH (envH n R os (some (.imm (.int k))) j4 j5 j6 j7) = some (.nx (envH n R (os ++ [o]) (some (.imm (.int k))) j4' j5' j6' j7')) := by
  obtain ⟨m, hm, hd⟩ := drawn_eq n (50 + k) (by omega)
  have q0 : 0 ≤ m / 4 := Int.ediv_nonneg hm (by decide)
  generalize hq : m / 4 = q at q0
  have s1 : asg 4 (op2 oDiv (opN d_l_drawn [(nmV 0), (op2 oAdd (cst (.int 50)) (nm 3))]) (cst (.int 4))) (envH n R os (some (.imm (.int k))) j4 j5 j6 j7) = some (.nx (envH n R os (some (.imm (.int k))) (some (.imm (.int q))) j5 j6 j7)) := by
    have n0 : nmV 0 (envH n R os (some (.imm (.int k))) j4 j5 j6 j7) = some (.int n) := rfl
    have n3 : nm 3 (envH n R os (some (.imm (.int k))) j4 j5 j6 j7) = some (.int k) := rfl
    simp only [asg, op2, opN, args, n0, n3, cst, add_ok, Option.bind_some, Option.map_some, hd, div_ok (j := 4) (by decide), hq]
    rfl
  have hone : 0 ≤ q % (R + 1) ∧ q % (R + 1) < R + 1 := ⟨Int.emod_nonneg _ (by omega), Int.emod_lt_of_pos _ (by omega)⟩
  have hother : 0 ≤ q / 8 % R ∧ q / 8 % R < R := ⟨Int.emod_nonneg _ (by omega), Int.emod_lt_of_pos _ (by omega)⟩
  have hneq : (q % (R + 1) + 1 + q / 8 % R) % (R + 1) ≠ q % (R + 1) := by
    generalize q % (R + 1) = a at *
    generalize q / 8 % R = b at *
    intro e
    by_cases c : a + 1 + b < R + 1
    · rw [Int.emod_eq_of_lt (by omega) c] at e
      omega
    · have : (a + 1 + b) % (R + 1) = a + 1 + b - (R + 1) := by
        rw [← Int.sub_emod_right, Int.emod_eq_of_lt (by omega) (by omega)]
      omega
  have hoth : 0 ≤ (q % (R + 1) + 1 + q / 8 % R) % (R + 1) ∧ (q % (R + 1) + 1 + q / 8 % R) % (R + 1) < R + 1 := ⟨Int.emod_nonneg _ (by omega), Int.emod_lt_of_pos _ (by omega)⟩
  have s2 : asg 5 (op2 oMod (nm 4) (op2 oAdd (nm 1) (cst (.int 1)))) (envH n R os (some (.imm (.int k))) (some (.imm (.int q))) j5 j6 j7) = some (.nx (envH n R os (some (.imm (.int k))) (some (.imm (.int q))) (some (.imm (.int (q % (R + 1))))) j6 j7)) := by
    have n4 : nm 4 (envH n R os (some (.imm (.int k))) (some (.imm (.int q))) j5 j6 j7) = some (.int q) := rfl
    have n1 : nm 1 (envH n R os (some (.imm (.int k))) (some (.imm (.int q))) j5 j6 j7) = some (.int R) := rfl
    simp only [asg, op2, n4, n1, cst, add_ok, Option.bind_some, Option.map_some, mod_ok (j := R + 1) (by omega)]
    rfl
  generalize q % (R + 1) = one at *
  have s3 : asg 6 (op2 oMod (op2 oAdd (op2 oAdd (nm 5) (cst (.int 1))) (op2 oMod (op2 oDiv (nm 4) (cst (.int 8))) (nm 1))) (op2 oAdd (nm 1) (cst (.int 1)))) (envH n R os (some (.imm (.int k))) (some (.imm (.int q))) (some (.imm (.int one))) j6 j7) = some (.nx (envH n R os (some (.imm (.int k))) (some (.imm (.int q))) (some (.imm (.int one))) (some (.imm (.int ((one + 1 + q / 8 % R) % (R + 1))))) j7)) := by
    have n5 : nm 5 (envH n R os (some (.imm (.int k))) (some (.imm (.int q))) (some (.imm (.int one))) j6 j7) = some (.int one) := rfl
    have n4 : nm 4 (envH n R os (some (.imm (.int k))) (some (.imm (.int q))) (some (.imm (.int one))) j6 j7) = some (.int q) := rfl
    have n1 : nm 1 (envH n R os (some (.imm (.int k))) (some (.imm (.int q))) (some (.imm (.int one))) j6 j7) = some (.int R) := rfl
    simp only [asg, op2, n5, n4, n1, cst, add_ok, Option.bind_some, Option.map_some, div_ok (j := 8) (by decide), mod_ok (j := R) (by omega), mod_ok (j := R + 1) (by omega)]
    rfl
  generalize (one + 1 + q / 8 % R) % (R + 1) = oth at *
  obtain ⟨z, hz, hzn⟩ := zone_ix (q / 64 % 7) (Int.emod_nonneg _ (by decide)) (Int.emod_lt_of_pos _ (by decide)) (envH n R os (some (.imm (.int k))) (some (.imm (.int q))) (some (.imm (.int one))) (some (.imm (.int oth))) j7)
  have s4 : asg 7 (op2 oIx (mkTup [(cst .none), (cst .none), (cst (.str "a")), (cst (.str "b")), (cst (.str "back")), (cst (.str "hall")), (cst (.str "win"))]) (op2 oMod (op2 oDiv (nm 4) (cst (.int 64))) (cst (.int 7)))) (envH n R os (some (.imm (.int k))) (some (.imm (.int q))) (some (.imm (.int one))) (some (.imm (.int oth))) j7) = some (.nx (envH n R os (some (.imm (.int k))) (some (.imm (.int q))) (some (.imm (.int one))) (some (.imm (.int oth))) (some (.imm (zT z))))) := by
    have n4 : nm 4 (envH n R os (some (.imm (.int k))) (some (.imm (.int q))) (some (.imm (.int one))) (some (.imm (.int oth))) j7) = some (.int q) := rfl
    have hi : op2 oMod (op2 oDiv (nm 4) (cst (.int 64))) (cst (.int 7)) (envH n R os (some (.imm (.int k))) (some (.imm (.int q))) (some (.imm (.int one))) (some (.imm (.int oth))) j7) = some (.int (q / 64 % 7)) := by
      simp only [op2, n4, cst, Option.bind_some, div_ok (j := 64) (by decide), mod_ok (j := 7) (by decide)]
    have hh : op2 oIx (mkTup [(cst .none), (cst .none), (cst (.str "a")), (cst (.str "b")), (cst (.str "back")), (cst (.str "hall")), (cst (.str "win"))]) (op2 oMod (op2 oDiv (nm 4) (cst (.int 64))) (cst (.int 7))) (envH n R os (some (.imm (.int k))) (some (.imm (.int q))) (some (.imm (.int one))) (some (.imm (.int oth))) j7) = some (zT z) := by
      rw [← hz]
      unfold op2 at hi ⊢
      simp only [hi, Option.bind_some]
    simp only [asg, hh, Option.map_some]
    rfl
  refine ⟨((if oth < one then oth else one), (if oth > one then oth else one), z), some (.imm (.int q)), some (.imm (.int one)), some (.imm (.int oth)), some (.imm (zT z)), ⟨?_, ?_, ?_, hzn⟩, ?_⟩
  · dsimp only
    split <;> omega
  · dsimp only
    split <;> split <;> omega
  · dsimp only
    split <;> omega
  · have s5 : asg 2 (op2 oAdd (nm 2) (mkTup [(mkTup [(opN oMin [(nm 5), (nm 6)]), (opN oMax [(nm 5), (nm 6)]), (nmV 7)])])) (envH n R os (some (.imm (.int k))) (some (.imm (.int q))) (some (.imm (.int one))) (some (.imm (.int oth))) (some (.imm (zT z)))) = some (.nx (envH n R (os ++ [((if oth < one then oth else one), (if oth > one then oth else one), z)]) (some (.imm (.int k))) (some (.imm (.int q))) (some (.imm (.int one))) (some (.imm (.int oth))) (some (.imm (zT z))))) := by
      have n5 : nm 5 (envH n R os (some (.imm (.int k))) (some (.imm (.int q))) (some (.imm (.int one))) (some (.imm (.int oth))) (some (.imm (zT z)))) = some (.int one) := rfl
      have n6 : nm 6 (envH n R os (some (.imm (.int k))) (some (.imm (.int q))) (some (.imm (.int one))) (some (.imm (.int oth))) (some (.imm (zT z)))) = some (.int oth) := rfl
      have n7 : nmV 7 (envH n R os (some (.imm (.int k))) (some (.imm (.int q))) (some (.imm (.int one))) (some (.imm (.int oth))) (some (.imm (zT z)))) = some (zT z) := rfl
      have n2 : nm 2 (envH n R os (some (.imm (.int k))) (some (.imm (.int q))) (some (.imm (.int one))) (some (.imm (.int oth))) (some (.imm (zT z)))) = some (.tuple (os.map opT)) := rfl
      have hb : (os.map opT).length + 1 ≤ 16777216 := by simp; omega
      simp only [asg, op2, opN, mkTup, args, n5, n6, n7, n2, Option.bind_some, Option.map_some, oMin, oMax, oAdd, List.length_cons, List.length_nil, big]
      simp [hb, envH, opT]
      omega
    unfold bH
    rw [seq_nx s1, seq_nx s2, seq_nx s3, seq_nx s4, s5]
theorem house_loop (n R : Int) (h1 : 1 ≤ R) (h7 : R ≤ 7) : ∀ (ks : List Int) (os : List Op) (j3 j4 j5 j6 j7 : Option Sl), (∀ k ∈ ks, 0 ≤ k ∧ k < 1000) → os.length + ks.length < 1000 → (∀ o ∈ os, OpOk R o) →
    ∃ os' j3' j4' j5' j6' j7', os'.length = os.length + ks.length ∧ (∀ o ∈ os', OpOk R o) ∧ forL (gNm 3) bH (ks.map .int) (envH n R os j3 j4 j5 j6 j7) = some (.nx (envH n R os' j3' j4' j5' j6' j7'))
  | [], os, j3, j4, j5, j6, j7, _, _, ho => ⟨os, j3, j4, j5, j6, j7, rfl, ho, rfl⟩
  | k :: ks, os, j3, j4, j5, j6, j7, hk, hl, ho => by
    simp only [List.length_cons] at hl
    obtain ⟨o, a4, a5, a6, a7, oo, hs⟩ := house_step n R h1 h7 os (by omega) k (hk k (by simp)) j4 j5 j6 j7
    obtain ⟨os', b3, b4, b5, b6, b7, e1, e2, e3⟩ := house_loop n R h1 h7 ks (os ++ [o]) (some (.imm (.int k))) a4 a5 a6 a7 (fun k' h => hk k' (by simp [h])) (by simp; omega) fun o' h => by
      rcases List.mem_append.mp h with q | q
      · exact ho o' q
      · simp at q
        subst q
        exact oo
    refine ⟨os', b3, b4, b5, b6, b7, by rw [e1]; simp; omega, e2, ?_⟩
    have e0 : gNm 3 (.int k) (envH n R os j3 j4 j5 j6 j7) = some (envH n R os (some (.imm (.int k))) j4 j5 j6 j7) := rfl
    simp only [List.map_cons, forL, e0, Option.bind_some, hs, e3]
theorem house_eq (n : Int) (hn : 0 ≤ n) : ∃ R os, Drawn R os ∧ d_l_house [.int n] = some (houseT R os) := by
  have hR : 0 ≤ n % 7 ∧ n % 7 < 7 := ⟨Int.emod_nonneg _ (by decide), Int.emod_lt_of_pos _ (by decide)⟩
  have hN : 0 ≤ n / 8 % 11 ∧ n / 8 % 11 < 11 := ⟨Int.emod_nonneg _ (by decide), Int.emod_lt_of_pos _ (by decide)⟩
  have s1 : asg 1 (op2 oAdd (cst (.int 1)) (op2 oMod (nm 0) (cst (.int 7)))) [some (.imm (.int n)), none, none, none, none, none, none, none] = some (.nx [some (.imm (.int n)), some (.imm (.int (1 + n % 7))), none, none, none, none, none, none]) := by
    have n0 : nm 0 [some (.imm (.int n)), none, none, none, none, none, none, none] = some (.int n) := rfl
    simp only [asg, op2, n0, cst, Option.bind_some, Option.map_some, mod_ok (j := 7) (by decide), add_ok]
    rfl
  have s2 : asg 2 (mkTup []) [some (.imm (.int n)), some (.imm (.int (1 + n % 7))), none, none, none, none, none, none] = some (.nx (envH n (1 + n % 7) [] none none none none none)) := by
    simp [asg, mkTup, args, big, envH]
  have hit : itRng1 (op2 oMod (op2 oDiv (nm 0) (cst (.int 8))) (cst (.int 11))) (envH n (1 + n % 7) [] none none none none none) = some (((List.range (n / 8 % 11).toNat).map fun (k : Nat) => (k : Int)).map .int) := by
    have n0 : nm 0 (envH n (1 + n % 7) [] none none none none none) = some (.int n) := rfl
    have hs : small62 (n / 8 % 11) = true := by
      unfold small62
      simp
      omega
    simp only [itRng1, op2, n0, cst, Option.bind_some, div_ok (j := 8) (by decide), mod_ok (j := 11) (by decide), hs, if_true, rng, Int.sub_zero, Int.zero_add, List.map_map, Function.comp_def]
  obtain ⟨os, b3, b4, b5, b6, b7, e1, e2, e3⟩ := house_loop n (1 + n % 7) (by omega) (by omega) ((List.range (n / 8 % 11).toNat).map fun (k : Nat) => (k : Int)) [] none none none none none (fun k hk => by
    obtain ⟨j, hj, rfl⟩ := List.mem_map.mp hk
    have := List.mem_range.mp hj
    omega) (by simp; omega) (by simp)
  simp only [List.length_nil, List.length_map, List.length_range] at e1
  refine ⟨1 + n % 7, os, ⟨by omega, by omega, by omega, e2⟩, ?_⟩
  have s3 : for_ (itRng1 (op2 oMod (op2 oDiv (nm 0) (cst (.int 8))) (cst (.int 11)))) (gNm 3) bH (envH n (1 + n % 7) [] none none none none none) = some (.nx (envH n (1 + n % 7) os b3 b4 b5 b6 b7)) := by
    simp only [for_, hit, Option.bind_some]
    exact e3
  have s4 : seq (for_ (itRng1 (op2 oMod (op2 oDiv (nm 0) (cst (.int 8))) (cst (.int 11)))) (gNm 3) bH) (rtn (mkTup [(nmV 1), (nmV 2)])) (envH n (1 + n % 7) [] none none none none none) = some (.rt (houseT (1 + n % 7) os)) := by
    rw [seq_nx s3]
    simp [rtn, mkTup, args, nmV, envH, big, houseT]
  have e0 : d_l_house [.int n] = (b_l_house [some (.imm (.int n)), none, none, none, none, none, none, none]).bind fun o => match o with | .rt t => some t | .nx _ => some .none | _ => none := rfl
  rw [e0]
  unfold b_l_house
  rw [seq_nx s1, seq_nx s2]
  exact congrArg (fun x : Option Out => x.bind fun o => match o with | .rt t => some t | .nx _ => some .none | _ => none) s4
end Ho
end
section
set_option linter.all false
set_option maxHeartbeats 2000000
namespace Ho
open PySem D
/-! ### what the functions of houses tell, of drawn houses -/
theorem drawn_ops {R : Int} {os : List Op} (d : Drawn R os) : OpsOk os := fun o ho x hx => by
  have := (d.ok o ho).2.2.2 x hx
  simp only [names5, List.mem_cons, List.not_mem_nil, or_false] at this
  rcases this with rfl | rfl | rfl | rfl | rfl <;> decide +kernel
theorem within_all {R : Int} {os : List Op} (d : Drawn R os) : Hg.Within R (os.map edge) := fun e he => by
  obtain ⟨o, ho, rfl⟩ := List.mem_map.mp he
  have := d.ok o ho
  unfold OpOk at this
  unfold edge
  dsimp only
  omega
theorem within_free {R : Int} {os : List Op} (d : Drawn R os) (ns : List Str) : Hg.Within R (freeEdges ns os) := fun e he => by
  obtain ⟨o, ho, rfl⟩ := List.mem_map.mp he
  exact within_all d (edge o) (List.mem_map.mpr ⟨o, (List.mem_filter.mp ho).1, rfl⟩)
/-- the rooms that are reached, in order -/
def reachL (F : List (Int × Int)) : List Int := sortI ((Hg.bfs F 1000 [0] [0]).getD [])
theorem reach_ok {R : Int} {F : List (Int × Int)} (hE : Hg.Within R F) (h0 : 0 ≤ R) (h7 : R ≤ 7) :
    (∃ r, Hg.bfs F 1000 [0] [0] = some r ∧ r.length ≤ 8 ∧ reachL F = sortI r) ∧ (∀ x, x ∈ reachL F ↔ Hg.Reach F x) ∧ (reachL F).Pairwise (· < ·) ∧ ∀ x ∈ reachL F, 0 ≤ x ∧ x ≤ R := by
  obtain ⟨r, h1, h2, h3, h4⟩ := Hg.bfs_ok hE h0 h7 (n := 1000) (by decide)
  have e : reachL F = sortI r := by rw [reachL, h1]; rfl
  have hp := sortI_perm r
  refine ⟨⟨r, h1, Hg.nodup_len 8 r h2 fun x hx => by have := h4 x hx; omega, e⟩, fun x => by rw [e, hp.mem_iff]; exact h3 x, ?_, fun x hx => h4 x (hp.mem_iff.mp (e ▸ hx))⟩
  rw [e]
  have nd : (sortI r).Nodup := hp.nodup_iff.mpr h2
  have pw := sortI_pw r
  exact (pw.and nd).imp fun h => by have h1 := h.1; have h2 := h.2; omega
theorem unseen_val {R : Int} {os : List Op} (d : Drawn R os) {ns : List Str} (hn : StrsOk ns) : d_unseen [houseT R os, .tuple (ns.map .str)] = some (.tuple ((reachL (freeEdges ns os)).map .int)) := by
  obtain ⟨⟨r, h1, h2, h3⟩, _⟩ := reach_ok (within_free d ns) (by have := d.r1; omega) d.r7
  rw [h3]
  exact unseen_eq hn (drawn_ops d) d.len h1 h2
theorem ways_val {R : Int} {os : List Op} (d : Drawn R os) (room : Int) : ∃ ws, Hg.waysP (os.map edge) room 20 [0] = some ws ∧ d_ways [houseT R os, .int room] = some (.tuple (ws.map wT)) ∧ (ws ≠ [] ↔ Hg.Reach (os.map edge) room) := by
  obtain ⟨ws, h1, h2⟩ := Hg.ways_tot (within_all d) d.r7 (by simpa using d.len) room 20 [0] (by simp) (by simp) (by have := d.r1; simp; omega) (by simp)
  exact ⟨ws, h1, ways_eq h1 (Nat.le_trans h2 (by simp)), Hg.ways_iff h1⟩
theorem lt_unique {l m : List Int} (h1 : l.Pairwise (· < ·)) (h2 : m.Pairwise (· < ·)) (h : ∀ x, x ∈ l ↔ x ∈ m) : l = m :=
  eq_of_perm_pw (fun a b p q => by omega) (perm_of_nodup (h1.imp fun h => Int.ne_of_lt h) (h2.imp fun h => Int.ne_of_lt h) h) h1 h2
theorem zones_mem {os : List Op} {x : Str} : x ∈ zonesL os ↔ ∃ o ∈ os, o.2.2 = some x := by
  unfold zonesL
  rw [(sortS_perm _).mem_iff, dedup_mem, List.mem_filterMap]
theorem zones_pw (os : List Op) : (zonesL os).Pairwise sLe := sortS_pw _
theorem zones_nd (os : List Op) : (zonesL os).Nodup := (sortS_perm _).nodup_iff.mpr (dedup_nodup _)
theorem s_unique {l m : List Str} (p1 : l.Pairwise sLe) (p2 : m.Pairwise sLe) (n1 : l.Nodup) (n2 : m.Nodup) (h : ∀ x, x ∈ l ↔ x ∈ m) : l = m :=
  eq_of_perm_pw (fun a b h1 h2 => sLe_anti h1 h2) (perm_of_nodup n1 n2 h) p1 p2
/-! ### the watch taken away -/
def bare (ns : List Str) (o : Op) : Op := (o.1, o.2.1, match o.2.2 with
  | none => none
  | some x => if x ∈ ns then none else some x)
theorem bare_drawn {R : Int} {os : List Op} (d : Drawn R os) (ns : List Str) : Drawn R (os.map (bare ns)) := by
  refine ⟨d.r1, d.r7, by simpa using d.len, fun o ho => ?_⟩
  obtain ⟨o', h', rfl⟩ := List.mem_map.mp ho
  obtain ⟨h1, h2, h3, h4⟩ := d.ok o' h'
  refine ⟨h1, h2, h3, fun x hx => ?_⟩
  obtain ⟨a, b, z⟩ := o'
  cases z with
  | none => cases hx
  | some y =>
    simp only [bare] at hx
    split at hx
    · cases hx
    · cases hx
      exact h4 _ rfl
theorem free_congr {ns ms : List Str} {os os' : List Op} {f : Op → Op} (e : os' = os.map f) (he : ∀ o, edge (f o) = edge o) (hf : ∀ o ∈ os, free ms (f o) = free ns o) : freeEdges ms os' = freeEdges ns os := by
  subst e
  unfold freeEdges
  induction os with
  | nil => rfl
  | cons o os ih =>
    have h1 := hf o (by simp)
    have h2 := ih fun o h => hf o (by simp [h])
    simp only [List.map_cons, List.filter_cons, h1]
    split
    · simp only [List.map_cons, he, h2]
    · exact h2
theorem free_bare0 (ns : List Str) (os : List Op) : freeEdges [] (os.map (bare ns)) = freeEdges ns os := free_congr rfl (fun _ => rfl) fun o _ => by
  obtain ⟨a, b, z⟩ := o
  cases z with
  | none => rfl
  | some x =>
    by_cases h : x ∈ ns <;> simp [free, bare, h]
theorem free_bare1 (ns : List Str) (os : List Op) : freeEdges ns (os.map (bare ns)) = freeEdges ns os := free_congr rfl (fun _ => rfl) fun o _ => by
  obtain ⟨a, b, z⟩ := o
  cases z with
  | none => rfl
  | some x =>
    by_cases h : x ∈ ns <;> simp [free, bare, h]
theorem free_rev (ns : List Str) (os : List Op) : freeEdges ns.reverse os = freeEdges ns os := free_congr (f := id) (by simp) (fun _ => rfl) fun o _ => by
  obtain ⟨a, b, z⟩ := o
  cases z with
  | none => rfl
  | some x => simp [free]
theorem free_more {ns ms : List Str} {os : List Op} (h : ∀ o ∈ os, ∀ x, o.2.2 = some x → x ∉ ms) : freeEdges (ns ++ ms) os = freeEdges ns os := free_congr (f := id) (by simp) (fun _ => rfl) fun o ho => by
  obtain ⟨a, b, z⟩ := o
  cases z with
  | none => rfl
  | some x =>
    have := h _ ho x rfl
    simp [free, this]
theorem free_all (os : List Op) : freeEdges (zonesL os) os = os.map edge := by
  unfold freeEdges
  rw [List.filter_eq_self.mpr]
  intro o ho
  obtain ⟨a, b, z⟩ := o
  cases z with
  | none => rfl
  | some x =>
    have : x ∈ zonesL os := zones_mem.mpr ⟨_, ho, rfl⟩
    simp [free, this]
theorem zones_bare (ns : List Str) (os : List Op) : (zonesL os).filter (fun x => !decide (x ∈ ns)) = zonesL (os.map (bare ns)) := by
  refine s_unique ((zones_pw os).sublist List.filter_sublist) (zones_pw _) ((zones_nd os).sublist List.filter_sublist) (zones_nd _) fun x => ?_
  rw [List.mem_filter, zones_mem, zones_mem]
  constructor
  · rintro ⟨⟨o, ho, hx⟩, hn⟩
    refine ⟨bare ns o, List.mem_map.mpr ⟨o, ho, rfl⟩, ?_⟩
    simp only [Bool.not_eq_true', decide_eq_false_iff_not] at hn
    simp [bare, hx, hn]
  · rintro ⟨o', ho', hx⟩
    obtain ⟨o, ho, rfl⟩ := List.mem_map.mp ho'
    obtain ⟨a, b, z⟩ := o
    cases z with
    | none => cases hx
    | some y =>
      simp only [bare] at hx
      split at hx
      · cases hx
      next hn =>
        cases hx
        exact ⟨⟨_, ho, rfl⟩, by simpa using hn⟩
theorem strsOk_zones {R : Int} {os : List Op} (d : Drawn R os) : StrsOk (zonesL os) := fun x hx => by
  obtain ⟨o, ho, h⟩ := zones_mem.mp hx
  exact drawn_ops d o ho x h
/-- the rooms that have a way -/
theorem due_eq {R : Int} {os : List Op} (d : Drawn R os) (p : Int → Bool) (hp : ∀ x, p x = true ↔ Hg.Reach (os.map edge) x) :
    reachL (os.map edge) = 0 :: (((List.range R.toNat).map fun (k : Nat) => 1 + (k : Int)).filter p) := by
  have h1 := d.r1
  obtain ⟨_, hm, hpw, hb⟩ := reach_ok (within_all d) (by omega) d.r7
  refine lt_unique hpw (List.pairwise_cons.mpr ⟨fun y hy => ?_, ?_⟩) fun x => ?_
  · obtain ⟨k, _, rfl⟩ := List.mem_map.mp (List.mem_filter.mp hy).1
    omega
  · refine List.Pairwise.sublist List.filter_sublist ?_
    rw [List.pairwise_map]
    exact List.pairwise_lt_range.imp fun h => by omega
  · rw [hm, List.mem_cons, List.mem_filter, List.mem_map]
    constructor
    · intro hr
      have hx := hb x ((hm x).mpr hr)
      rcases Int.lt_or_eq_of_le hx.1 with q | q
      · exact .inr ⟨⟨(x - 1).toNat, List.mem_range.mpr (by omega), by omega⟩, (hp x).mpr hr⟩
      · exact .inl q.symm
    · rintro (rfl | ⟨_, q⟩)
      · exact .zero
      · exact (hp x).mp q
theorem args1 {f : Fe} {ε : Ev} {x : T} (hf : f ε = some x) : args [f] ε = some [x] := by simp only [args, hf, Option.bind_some, Option.map_some]
theorem args2 {f g : Fe} {ε : Ev} {x y : T} (hf : f ε = some x) (hg : g ε = some y) : args [f, g] ε = some [x, y] := by simp only [args, hf, hg, Option.bind_some, Option.map_some]
theorem args3 {f g h : Fe} {ε : Ev} {x y z : T} (hf : f ε = some x) (hg : g ε = some y) (hh : h ε = some z) : args [f, g, h] ε = some [x, y, z] := by simp only [args, hf, hg, hh, Option.bind_some, Option.map_some]
theorem mkTup_of {fs : List Fe} {ε : Ev} {xs : List T} (h : args fs ε = some xs) (hl : xs.length ≤ 16777216) : mkTup fs ε = some (.tuple xs) := by
  simp only [mkTup, h, Option.bind_some]
  exact if_pos hl
theorem opN_of {fs : List Fe} {ε : Ev} {xs : List T} {o : List T → Option T} {t : T} (h : args fs ε = some xs) (ho : o xs = some t) : opN o fs ε = some t := by
  simp only [opN, h, Option.bind_some, ho]
theorem op2_of {f g : Fe} {ε : Ev} {o : T → T → Option T} {x y t : T} (hf : f ε = some x) (hg : g ε = some y) (ho : o x y = some t) : op2 o f g ε = some t := by
  simp only [op2, hf, hg, Option.bind_some, ho]
theorem op1_of {f : Fe} {ε : Ev} {o : T → Option T} {x t : T} (hf : f ε = some x) (ho : o x = some t) : op1 o f ε = some t := by
  simp only [op1, hf, Option.bind_some, ho]
theorem tstB_of {f : Fe} {ε : Ev} {b : Bool} (h : f ε = some (.bool b)) : tstB f ε = some b := by
  simp only [tstB, h, Option.bind_some]
theorem asg_of {i : Nat} {f : Fe} {ε : Ev} {t : T} (h : f ε = some t) : asg i f ε = some (.nx (ε.set i (some (.imm t)))) := by
  simp only [asg, h, Option.map_some]
theorem iff_no {c : Ft} {a b : Fs} {ε : Ev} (h : c ε = some false) : iff c a b ε = b ε := by
  simp only [iff, h, Option.bind_some, Bool.false_eq_true, if_false]
theorem iff_yes {c : Ft} {a b : Fs} {ε : Ev} (h : c ε = some true) : iff c a b ε = a ε := by
  simp only [iff, h, Option.bind_some, if_true]
theorem tup_add {xs ys : List T} (h : xs.length + ys.length ≤ 16777216) : oAdd (.tuple xs) (.tuple ys) = some (.tuple (xs ++ ys)) := if_pos h
theorem forL_nx {g : Fg} {b : Fs} {t : T} {ts : List T} {ε ε1 ε2 : Ev} (h1 : g t ε = some ε1) (h2 : b ε1 = some (.nx ε2)) : forL g b (t :: ts) ε = forL g b ts ε2 := by
  simp only [forL, h1, h2, Option.bind_some]
end Ho
end
section
set_option linter.all false
set_option autoImplicit false
namespace D
open PySem PySem.Spec PyProof.Rows L2
/-- no list stands in the program's own part of the heap -/
def noL (K : PySem.W.Frag) : Bool := K.all fun p => match p.2.cls with
  | .type t => t != "list"
  | _ => true
theorem lookup_mem {α β : Type} [BEq α] [LawfulBEq α] {a : α} {b : β} : ∀ {l : List (α × β)}, l.lookup a = some b → (a, b) ∈ l
  | [], h => by cases h
  | (x, y) :: l, h => by
    rw [List.lookup_cons] at h
    split at h
    next q =>
      cases h
      have : a = x := by simpa using q
      subst this
      simp
    next => exact List.mem_cons_of_mem _ (lookup_mem h)
theorem sp_start {K : PySem.W.Frag} {H : Hp} {a : Addr} {ns : List Int} {d : List T → Option T} (hL : noL K = true) (hd : d [Ho.scriptT ns] = some (.bool true)) (hS : SqL K H a (ns.map V.int)) : spT K 1 d [.ref a] H (fun v _ => v = .bl true) fun _ _ _ => False := by
  rcases hS with hS | ⟨o, its, n, hk, hc, _⟩
  · refine ⟨rfl, fun b => b = a, [Ho.scriptT ns], .bool true, ?_, RepL.cons ?_ RepL.nil, hd, fun v F' H' x r => by simpa [Rep] using r⟩
    · rintro b rfl
      rcases hS with q | ⟨u, q⟩
      · exact ⟨_, q⟩
      · exact ⟨_, q⟩
    · simp only [Ho.scriptT, Rep]
      exact ⟨a, _, rfl, rfl, hS, repL_ints ns⟩
  · have := List.all_eq_true.mp hL _ (lookup_mem hk)
    simp [hc] at this
end D
end
section
set_option linter.all false
namespace K23
open D Ho
def b_law : Fs :=
    (seq (asg 1 (opN d_l_house [(opN d_l_mixed [(nmV 0), (cst (.int 0))])]))
    (seq (asg 2 (opN d_l_mixed [(nmV 0), (cst (.int 1))]))
    (seq (asg 3 (opN d_zones_of [(nmV 1)]))
    (seq (asg 4 (opN oTuple [(comp 2 [2] (itEnum (itTup (nmV 3))) (gTu [(gNm 0), (gNm 1)]) (tstB (op2 oEq (op2 oMod (op2 oDiv (nm 2) (op2 oIx (mkTup [(cst (.int 1)), (cst (.int 2)), (cst (.int 4)), (cst (.int 8)), (cst (.int 16))]) (nm 0))) (cst (.int 2))) (cst (.int 1)))) (nmV 1))]))
    (seq (asg 5 (op2 oAdd (nm 4) (slice (nm 3) optN (opt (op2 oMod (op2 oDiv (nm 2) (cst (.int 32))) (cst (.int 6)))))))
    (seq (asg 6 (opN d_unseen [(nmV 1), (nmV 4)]))
    (seq (iff (orT (tstB (op2 oNe (comp 1 [1, 5] (itSeq (nmV 6)) (gNm 0) (tstB (op2 (oIn true) (nm 0) (opN d_unseen [(nmV 1), (nmV 2)]))) (nmV 0)) (mkLst []))) (tstB (op2 oNe (slice (nm 6) optN (opt (cst (.int 1)))) (mkTup [(cst (.int 0))])))) (rtn (cst (.bool false))) skip)
    (seq (asgN 7 (mkLst [(cst (.int 0))]))
    (seq (for_ (itRng2 (cst (.int 1)) (op2 oAdd (op2 oIx (nm 1) (cst (.int 0))) (cst (.int 1)))) (gNm 8)
    (seq (asg 9 (cst (.bool false)))
    (seq (for_ (itSeq (opN d_ways [(nmV 1), (nmV 8)])) (gNm 10)
    (seq (asgN 11 (mkLst [(cst (.int 0))]))
    (seq (for_ (itSeq (nmV 10)) (gNm 12)
    (seq (asg 13 (slice (op2 oIx (op2 oIx (nm 1) (cst (.int 1))) (nm 12)) optN (opt (cst (.int 2)))))
    (seq (iff (tstB (op2 (oIn true) (op2 oIx (nm 11) (op1 oNeg (cst (.int 1)))) (nm 13))) (rtn (cst (.bool false))) skip)
    (seq (asg 14 (op2 oSub (opN oSumT [(nm 13)]) (op2 oIx (nm 11) (op1 oNeg (cst (.int 1))))))
    (seq (iff (tstB (op2 (oIn false) (nm 14) (nm 11))) (rtn (cst (.bool false))) skip)
    (app 11 (nmV 14)))))))
    (seq (iff (tstB (op2 oNe (op2 oIx (nm 11) (op1 oNeg (cst (.int 1)))) (nm 8))) (rtn (cst (.bool false))) skip)
    (seq (asg 15 (comp 1 [4, 1] (itSeq (nmV 10)) (gNm 0) (andT (tstB (op1 oNotN (op2 oIx (op2 oIx (op2 oIx (nm 2) (cst (.int 1))) (nm 0)) (cst (.int 2))))) (tstB (op2 (oIn true) (op2 oIx (op2 oIx (op2 oIx (nm 2) (cst (.int 1))) (nm 0)) (cst (.int 2))) (nm 1)))) (nmV 0)))
    (asg 9 (orV (nmV 9) (op2 oEq (nm 15) (mkLst [])))))))))
    (seq (iff (tstB (op2 oNe (op2 (oIn false) (nm 8) (nm 6)) (nm 9))) (rtn (cst (.bool false))) skip)
    (iff (tstB (op2 oNe (opN d_ways [(nmV 1), (nmV 8)]) (mkTup []))) (app 7 (nmV 8)) skip)))))
    (rtn (andV (op2 oEq (opN d_unseen [(nmV 1), (nmV 3)]) (opN oTuple [(nm 7)])) (op2 oEq (opN oList [(nm 6)]) (opN oSortedSetA [(nm 6)])))))))))))))
def d_law : List T → Option T := runF b_law 16
end K23
end
section
set_option linter.all false
set_option Elab.async false
set_option maxRecDepth 100000
set_option autoImplicit false
set_option maxHeartbeats 0
namespace K23
open PySem PySem.Spec PyProof.Rows L2 D Ho
def top (i : Nat) : Stmt := PySem.Challenge.pw_doorwatch_k23_whole_unseen.main.body.getD i (.Pass ⟨0, 0, 0, 0⟩)
section
variable {P : Program} {w : World} {K : PySem.W.Frag} {mg : Str → Option Value} {base : Heap}
abbrev s_zones_of : Stmt := top 2
theorem sc_zones_of : FnScope ["house"] ["house"] (defScope s_zones_of) := ⟨rfl, rfl, rfl, by decide +kernel, rfl, by decide +kernel, by decide +kernel⟩
theorem bd_zones_of {K : PySem.W.Frag} {f : Addr} {fd : FuncData} (F : Fun K "zones_of" "zones_of" s_zones_of f fd) : Binds K fd ["house"] [] := F.binds (ps := ["house"]) fun _ _ _ _ _ _ us hl => match us, hl with | [_], _ => rfl
theorem c_zones_of {k : Nat} {f : Addr} {fd : FuncData} (F : Fun K "zones_of" "zones_of" s_zones_of f fd) (m : mg "zones_of" = some (.ref f)) (z_tuple : mg "tuple" = none) (z_sorted : mg "sorted" = none) (z_set : mg "set" = none) : Cl P w K mg base "zones_of" (k + 1) 1 d_zones_of :=
  cl_of F sc_zones_of (bd_zones_of F) m fun cdv A outer s H E hr =>
    (b_one (s_ret (v2r (q_tuple z_tuple (a_consR (v2r (q_sortedSet rfl z_sorted z_set (v2r (q_compV (own := ["opening"]) (caps := []) (compOk (sc := defScope s_zones_of) ["house"] rfl rfl rfl (by decide +kernel)) (i_seq (q_ix (q_nm 0) (v2r q_int))) (fun _ _ _ _ _ _ => (g_nm 0 (show List.Nodup (["opening"] : List Str) by decide +kernel))) (fun _ _ _ _ _ _ => (ts_one (t_notN (v2r (q_ix (q_nm 0) (v2r q_int)))))) (fun _ _ _ _ _ _ => (q_ix (q_nm 0) (v2r q_int))))))) a_nilR)))))
abbrev s_beyond : Stmt := top 3
theorem sc_beyond : FnScope ["opening", "here"] ["opening", "here"] (defScope s_beyond) := ⟨rfl, rfl, rfl, by decide +kernel, rfl, by decide +kernel, by decide +kernel⟩
theorem bd_beyond {K : PySem.W.Frag} {f : Addr} {fd : FuncData} (F : Fun K "beyond" "beyond" s_beyond f fd) : Binds K fd ["opening", "here"] [] := F.binds (ps := ["opening", "here"]) fun _ _ _ _ _ _ us hl => match us, hl with | [_, _], _ => rfl
theorem c_beyond {k : Nat} {f : Addr} {fd : FuncData} (F : Fun K "beyond" "beyond" s_beyond f fd) (m : mg "beyond" = some (.ref f))  : Cl P w K mg base "beyond" (k + 1) 2 d_beyond :=
  cl_of F sc_beyond (bd_beyond F) m fun cdv A outer s H E hr =>
    (b_cons (s_if (t_cmp (op_eqT (by exact hr.units)) op2_eq (v2r (q_ix (q_nm 0) (v2r q_int))) (q_nm 1)) (b_one (s_ret (v2r (q_ix (q_nm 0) (v2r q_int))))) b_nil)
    (b_cons (s_if (t_cmp (op_eqT (by exact hr.units)) op2_eq (v2r (q_ix (q_nm 0) (v2r q_int))) (q_nm 1)) (b_one (s_ret (v2r (q_ix (q_nm 0) (v2r q_int))))) b_nil)
    (b_one (s_ret (v2r q_non)))))
abbrev s_unseen : Stmt := top 4
theorem sc_unseen : FnScope ["house", "names", "unwatched", "reached", "waiting", "here", "opening", "there"] ["house", "names"] (defScope s_unseen) := ⟨rfl, rfl, rfl, by decide +kernel, rfl, by decide +kernel, by decide +kernel⟩
theorem bd_unseen {K : PySem.W.Frag} {f : Addr} {fd : FuncData} (F : Fun K "unseen" "unseen" s_unseen f fd) : Binds K fd ["house", "names"] [] := F.binds (ps := ["house", "names"]) fun _ _ _ _ _ _ us hl => match us, hl with | [_, _], _ => rfl
theorem c_unseen {k : Nat} {f : Addr} {fd : FuncData} (F : Fun K "unseen" "unseen" s_unseen f fd) (m : mg "unseen" = some (.ref f)) (z_tuple : mg "tuple" = none) (z_sorted : mg "sorted" = none) (c_beyond : Cl P w K mg base "beyond" k 2 d_beyond) {t_OUTSIDE : Tok} (g_OUTSIDE : mg "OUTSIDE" = some (.int 0 t_OUTSIDE)) : Cl P w K mg base "unseen" (k + 1) 2 d_unseen :=
  cl_of F sc_unseen (bd_unseen F) m fun cdv A outer s H E hr =>
    (b_cons (s_asgC 2 sc_unseen.nd (own := ["opening"]) (caps := [(1, "names")]) (compOk (sc := defScope s_unseen) ["house", "names", "unwatched", "reached", "waiting", "here", "opening", "there"] rfl rfl rfl (by decide +kernel)) (i_seq (q_ix (q_nm 0) (v2r q_int))) (fun _ _ _ _ _ _ => (g_nm 0 (show List.Nodup (["opening", "names"] : List Str) by decide +kernel))) (fun _ _ _ _ _ _ => (ts_one (w_t (w_or (t_isN (v2r (q_ix (q_nm 0) (v2r q_int)))) (w_or1 (t_cmp (op_inT (by exact hr.units)) op2_in (v2r (q_ix (q_nm 0) (v2r q_int))) (q_nm 1))))))) (fun _ _ _ _ _ _ => (q_nmV 0)))
    (b_cons (s_dNew 3 sc_unseen.nd (q_gI g_OUTSIDE) q_bl)
    (b_cons (s_asgN 4 sc_unseen.nd (q_lst (a_consV (q_gI g_OUTSIDE) a_nilV)))
    (b_cons (s_while 1000 PassesOwn.never (t_list (q_nm 4)) (b_cons (s_pop 5 4 sc_unseen.nd)
    (b_one (s_for PassesOwn.never (i_seq (q_nmV 2)) (g_nm 6 sc_unseen.nd)
    (b_cons (s_asg 7 sc_unseen.nd (q_callC c_beyond hr (a_consV (q_nmV 6) (a_consV (q_nmV 5) a_nilV))))
    (b_one (s_if (w_t (w_and (t_notN (q_nm 7)) (w_and1 (t_dInN 3 (hu_of hr) (q_nm 7))))) (b_cons (s_dPut 3 (hu_of hr) (q_nm 7) q_bl)
    (b_one (s_app 4 (q_nmV 7)))) b_nil)))))))
    (b_one (s_ret (v2r (q_tuple z_tuple (a_consR (v2r (q_dSorted 3 rfl z_sorted)) a_nilR)))))))))
abbrev s_ways_on : Stmt := top 5
theorem sc_ways_on : FnScope ["house", "room", "places", "found", "number", "opening", "there"] ["house", "room", "places"] (defScope s_ways_on) := ⟨rfl, rfl, rfl, by decide +kernel, rfl, by decide +kernel, by decide +kernel⟩
theorem bd_ways_on {K : PySem.W.Frag} {f : Addr} {fd : FuncData} (F : Fun K "ways_on" "ways_on" s_ways_on f fd) : Binds K fd ["house", "room", "places"] [] := F.binds (ps := ["house", "room", "places"]) fun _ _ _ _ _ _ us hl => match us, hl with | [_, _, _], _ => rfl
theorem c1_ways_on {k : Nat} {d : List T → Option T} {f : Addr} {fd : FuncData} (F : Fun K "ways_on" "ways_on" s_ways_on f fd) (m : mg "ways_on" = some (.ref f)) (c_ways_on : Cl P w K mg base "ways_on" k 3 d) (z_enumerate : mg "enumerate" = none) (c_beyond : Cl P w K mg base "beyond" k 2 d_beyond) : Cl P w K mg base "ways_on" (k + 1) 3 (runF (b_ways_on d) 7) :=
  cl_of F sc_ways_on (bd_ways_on F) m fun cdv A outer s H E hr =>
    (b_cons (s_if (t_cmp (op_eqT (by exact hr.units)) op2_eq (v2r (q_ix (q_nm 2) (v2r (q_neg (v2r q_int))))) (q_nm 1)) (b_one (s_ret (v2r (q_lstV (a_consV (q_tup a_nilV) a_nilV))))) b_nil)
    (b_cons (s_asgN 3 sc_ways_on.nd (q_lst a_nilV))
    (b_cons (s_for PassesOwn.never (i_enum z_enumerate (q_ix (q_nm 0) (v2r q_int))) (g_tup (g_cons (g_nm 4 sc_ways_on.nd) (g_cons (g_nm 5 sc_ways_on.nd) g_nil)))
    (b_cons (s_asg 6 sc_ways_on.nd (q_callC c_beyond hr (a_consV (q_nmV 5) (a_consV (q_ix (q_nm 2) (v2r (q_neg (v2r q_int)))) a_nilV))))
    (b_one (s_if (w_t (w_and (t_notN (q_nm 6)) (w_and1 (t_cmp (op_notInT (by exact hr.units)) op2_in (q_nm 6) (q_nm 2))))) (b_one (s_ext 3 (v2r (q_compV (own := ["rest"]) (caps := [(4, "number")]) (compOk (sc := defScope s_ways_on) ["house", "room", "places", "found", "number", "opening", "there"] rfl rfl rfl (by decide +kernel)) (i_seq (q_callC c_ways_on hr (a_consV (q_nmV 0) (a_consV (q_nmV 1) (a_consV (q_add (q_nm 2) (v2r (q_tup (a_consV (q_nmV 6) a_nilV)))) a_nilV))))) (fun _ _ _ _ _ _ => (g_nm 0 (show List.Nodup (["rest", "number"] : List Str) by decide +kernel))) (fun _ _ _ _ _ _ => ts_nil) (fun _ _ _ _ _ _ => (q_add (v2r (q_tup (a_consV (q_nmV 1) a_nilV))) (q_nm 0))))))) b_nil))))
    (b_one (s_ret (q_nm 3))))))
theorem c_ways_on {k : Nat} {f : Addr} {fd : FuncData} (F : Fun K "ways_on" "ways_on" s_ways_on f fd) (m : mg "ways_on" = some (.ref f)) (z_enumerate : mg "enumerate" = none) (c_beyond : Cl P w K mg base "beyond" k 2 d_beyond) : ∀ n, Cl P w K mg base "ways_on" (k + n) 3 (d_ways_on n)
  | 0 => .mk' fnOk_none m F.kp (bd_ways_on F)
  | n + 1 => c1_ways_on F m (c_ways_on F m z_enumerate c_beyond n) z_enumerate (c_beyond.mono (Nat.le_add_right _ _))
abbrev s_ways : Stmt := top 6
theorem sc_ways : FnScope ["house", "room"] ["house", "room"] (defScope s_ways) := ⟨rfl, rfl, rfl, by decide +kernel, rfl, by decide +kernel, by decide +kernel⟩
theorem bd_ways {K : PySem.W.Frag} {f : Addr} {fd : FuncData} (F : Fun K "ways" "ways" s_ways f fd) : Binds K fd ["house", "room"] [] := F.binds (ps := ["house", "room"]) fun _ _ _ _ _ _ us hl => match us, hl with | [_, _], _ => rfl
theorem c_ways {k : Nat} {f : Addr} {fd : FuncData} (F : Fun K "ways" "ways" s_ways f fd) (m : mg "ways" = some (.ref f)) (z_tuple : mg "tuple" = none) (c_ways_on : Cl P w K mg base "ways_on" k 3 (d_ways_on 20)) {t_OUTSIDE : Tok} (g_OUTSIDE : mg "OUTSIDE" = some (.int 0 t_OUTSIDE)) : Cl P w K mg base "ways" (k + 1) 2 d_ways :=
  cl_of F sc_ways (bd_ways F) m fun cdv A outer s H E hr =>
    (b_one (s_ret (v2r (q_tuple z_tuple (a_consR (v2r (q_callC c_ways_on hr (a_consV (q_nmV 0) (a_consV (q_nmV 1) (a_consV (q_tup (a_consV (q_gI g_OUTSIDE) a_nilV)) a_nilV))))) a_nilR)))))
abbrev s_l_cell_at : Stmt := top 8
theorem sc_l_cell_at : FnScope ["_law_script", "_law_k"] ["_law_script", "_law_k"] (defScope s_l_cell_at) := ⟨rfl, rfl, rfl, by decide +kernel, rfl, by decide +kernel, by decide +kernel⟩
theorem bd_l_cell_at {K : PySem.W.Frag} {f : Addr} {fd : FuncData} (F : Fun K "_law_cell_at" "_law_cell_at" s_l_cell_at f fd) : Binds K fd ["_law_script", "_law_k"] [] := F.binds (ps := ["_law_script", "_law_k"]) fun _ _ _ _ _ _ us hl => match us, hl with | [_, _], _ => rfl
theorem c_l_cell_at {k : Nat} {f : Addr} {fd : FuncData} (F : Fun K "_law_cell_at" "_law_cell_at" s_l_cell_at f fd) (m : mg "_law_cell_at" = some (.ref f)) (z_len : mg "len" = none) : Cl P w K mg base "_law_cell_at" (k + 1) 2 d_l_cell_at :=
  cl_of F sc_l_cell_at (bd_l_cell_at F) m fun cdv A outer s H E hr =>
    (b_cons (s_if (t_cmp (op_lt.or op_lt_str) op2_lt (q_nm 1) (v2r (q_len z_len (a_consR (q_nm 0) a_nilR)))) (b_one (s_ret (v2r (q_ix (q_nm 0) (q_nm 1))))) b_nil)
    (b_one (s_ret (v2r q_int))))
abbrev s_l_mixed : Stmt := top 9
theorem sc_l_mixed : FnScope ["_law_script", "_law_k", "_law_drawn_here"] ["_law_script", "_law_k"] (defScope s_l_mixed) := ⟨rfl, rfl, rfl, by decide +kernel, rfl, by decide +kernel, by decide +kernel⟩
theorem bd_l_mixed {K : PySem.W.Frag} {f : Addr} {fd : FuncData} (F : Fun K "_law_mixed" "_law_mixed" s_l_mixed f fd) : Binds K fd ["_law_script", "_law_k"] [] := F.binds (ps := ["_law_script", "_law_k"]) fun _ _ _ _ _ _ us hl => match us, hl with | [_, _], _ => rfl
theorem c_l_mixed {k : Nat} {f : Addr} {fd : FuncData} (F : Fun K "_law_mixed" "_law_mixed" s_l_mixed f fd) (m : mg "_law_mixed" = some (.ref f)) (c_l_cell_at : Cl P w K mg base "_law_cell_at" k 2 d_l_cell_at) : Cl P w K mg base "_law_mixed" (k + 1) 2 d_l_mixed :=
  cl_of F sc_l_mixed (bd_l_mixed F) m fun cdv A outer s H E hr =>
    (b_cons (s_asg 2 sc_l_mixed.nd (q_mod (v2r (q_mul (v2r (q_add (v2r (q_add (v2r (q_callC c_l_cell_at hr (a_consV (q_nmV 0) (a_consV (q_nmV 1) a_nilV)))) (v2r (q_mul (v2r q_int) (q_nm 1))))) (v2r q_int))) (v2r q_int))) (v2r q_int)))
    (b_one (s_ret (v2r (q_mod (v2r (q_add (v2r (q_add (v2r (q_mul (q_nm 2) (q_nm 2))) (v2r (q_mul (v2r q_int) (q_nm 2))))) (q_nm 1))) (v2r q_int))))))
abbrev s_l_drawn : Stmt := top 10
theorem sc_l_drawn : FnScope ["_law_number", "_law_k", "_law_drawn_here"] ["_law_number", "_law_k"] (defScope s_l_drawn) := ⟨rfl, rfl, rfl, by decide +kernel, rfl, by decide +kernel, by decide +kernel⟩
theorem bd_l_drawn {K : PySem.W.Frag} {f : Addr} {fd : FuncData} (F : Fun K "_law_drawn" "_law_drawn" s_l_drawn f fd) : Binds K fd ["_law_number", "_law_k"] [] := F.binds (ps := ["_law_number", "_law_k"]) fun _ _ _ _ _ _ us hl => match us, hl with | [_, _], _ => rfl
theorem c_l_drawn {k : Nat} {f : Addr} {fd : FuncData} (F : Fun K "_law_drawn" "_law_drawn" s_l_drawn f fd) (m : mg "_law_drawn" = some (.ref f))  : Cl P w K mg base "_law_drawn" (k + 1) 2 d_l_drawn :=
  cl_of F sc_l_drawn (bd_l_drawn F) m fun cdv A outer s H E hr =>
    (b_cons (s_asg 2 sc_l_drawn.nd (q_mod (v2r (q_mul (v2r (q_add (v2r (q_add (q_nm 0) (v2r (q_mul (v2r q_int) (q_nm 1))))) (v2r q_int))) (v2r q_int))) (v2r q_int)))
    (b_one (s_ret (v2r (q_mod (v2r (q_add (v2r (q_add (v2r (q_mul (q_nm 2) (q_nm 2))) (v2r (q_mul (v2r q_int) (q_nm 2))))) (q_nm 1))) (v2r q_int))))))
abbrev s_l_house : Stmt := top 11
theorem sc_l_house : FnScope ["_law_number", "_law_rooms", "_law_openings", "_law_k", "_law_drawn_here", "_law_one", "_law_other", "_law_zone"] ["_law_number"] (defScope s_l_house) := ⟨rfl, rfl, rfl, by decide +kernel, rfl, by decide +kernel, by decide +kernel⟩
theorem bd_l_house {K : PySem.W.Frag} {f : Addr} {fd : FuncData} (F : Fun K "_law_house" "_law_house" s_l_house f fd) : Binds K fd ["_law_number"] [] := F.binds (ps := ["_law_number"]) fun _ _ _ _ _ _ us hl => match us, hl with | [_], _ => rfl
theorem c_l_house {k : Nat} {f : Addr} {fd : FuncData} (F : Fun K "_law_house" "_law_house" s_l_house f fd) (m : mg "_law_house" = some (.ref f)) (z_range : mg "range" = none) (c_l_drawn : Cl P w K mg base "_law_drawn" k 2 d_l_drawn) (z_min : mg "min" = none) (z_max : mg "max" = none) : Cl P w K mg base "_law_house" (k + 1) 1 d_l_house :=
  cl_of F sc_l_house (bd_l_house F) m fun cdv A outer s H E hr =>
    (b_cons (s_asg 1 sc_l_house.nd (q_add (v2r q_int) (v2r (q_mod (q_nm 0) (v2r q_int)))))
    (b_cons (s_asg 2 sc_l_house.nd (q_tup a_nilV))
    (b_cons (s_for PassesOwn.never (i_rng1 z_range (v2r (q_mod (v2r (q_div (q_nm 0) (v2r q_int))) (v2r q_int)))) (g_nm 3 sc_l_house.nd)
    (b_cons (s_asg 4 sc_l_house.nd (q_div (v2r (q_callC c_l_drawn hr (a_consV (q_nmV 0) (a_consV (q_add (v2r q_int) (q_nm 3)) a_nilV)))) (v2r q_int)))
    (b_cons (s_asg 5 sc_l_house.nd (q_mod (q_nm 4) (v2r (q_add (q_nm 1) (v2r q_int)))))
    (b_cons (s_asg 6 sc_l_house.nd (q_mod (v2r (q_add (v2r (q_add (q_nm 5) (v2r q_int))) (v2r (q_mod (v2r (q_div (q_nm 4) (v2r q_int))) (q_nm 1))))) (v2r (q_add (q_nm 1) (v2r q_int)))))
    (b_cons (s_asg 7 sc_l_house.nd (q_ix (v2r (q_tup (a_consV q_non (a_consV q_non (a_consV q_str (a_consV q_str (a_consV q_str (a_consV q_str (a_consV q_str a_nilV))))))))) (v2r (q_mod (v2r (q_div (q_nm 4) (v2r q_int))) (v2r q_int)))))
    (b_one (s_asg 2 sc_l_house.nd (q_add (q_nm 2) (v2r (q_tup (a_consV (q_tup (a_consV (q_min z_min (a_consR (q_nm 5) (a_consR (q_nm 6) a_nilR))) (a_consV (q_max z_max (a_consR (q_nm 5) (a_consR (q_nm 6) a_nilR))) (a_consV (q_nmV 7) a_nilV)))) a_nilV)))))))))))
    (b_one (s_ret (v2r (q_tup (a_consV (q_nmV 1) (a_consV (q_nmV 2) a_nilV)))))))))
abbrev s_law : Stmt := top 12
theorem sc_law : FnScope ["_law_script", "_law_house_here", "_law_number", "_law_every", "_law_names", "_law_more", "_law_some", "_law_reachable", "_law_room", "_law_free", "_law_way", "_law_here", "_law_one", "_law_ends", "_law_goal", "_law_seen"] ["_law_script"] (defScope s_law) := ⟨rfl, rfl, rfl, by decide +kernel, rfl, by decide +kernel, by decide +kernel⟩
theorem bd_law {K : PySem.W.Frag} {f : Addr} {fd : FuncData} (F : Fun K "law" "law" s_law f fd) : Binds K fd ["_law_script"] [] := F.binds (ps := ["_law_script"]) fun _ _ _ _ _ _ us hl => match us, hl with | [_], _ => rfl
theorem f_law {k : Nat} {f : Addr} {fd : FuncData} (F : Fun K "law" "law" s_law f fd) (c_l_house : Cl P w K mg base "_law_house" k 1 d_l_house) (c_l_mixed : Cl P w K mg base "_law_mixed" k 2 d_l_mixed) (c_zones_of : Cl P w K mg base "zones_of" k 1 d_zones_of) (z_tuple : mg "tuple" = none) (c_unseen : Cl P w K mg base "unseen" k 2 d_unseen) (z_range : mg "range" = none) (c_ways : Cl P w K mg base "ways" k 2 d_ways) (z_list : mg "list" = none) (z_sorted : mg "sorted" = none) (z_enumerate : mg "enumerate" = none) (z_set : mg "set" = none) (z_sum : mg "sum" = none) : FnOk P w K mg base CX0 (k + 1) f fd ["_law_script"] (spT K 1 d_law) :=
  fun_ok F sc_law fun cdv A outer s H E hr =>
    (b_cons (s_asg 1 sc_law.nd (q_callC c_l_house hr (a_consV (q_callC c_l_mixed hr (a_consV (q_nmV 0) (a_consV q_int a_nilV))) a_nilV)))
    (b_cons (s_asg 2 sc_law.nd (q_callC c_l_mixed hr (a_consV (q_nmV 0) (a_consV q_int a_nilV))))
    (b_cons (s_asg 3 sc_law.nd (q_callC c_zones_of hr (a_consV (q_nmV 1) a_nilV)))
    (b_cons (s_asg 4 sc_law.nd (q_tuple z_tuple (a_consR (v2r (q_compV (own := ["_law_k", "_law_name"]) (caps := [(2, "_law_number")]) (compOk (sc := defScope s_law) ["_law_script", "_law_house_here", "_law_number", "_law_every", "_law_names", "_law_more", "_law_some", "_law_reachable", "_law_room", "_law_free", "_law_way", "_law_here", "_law_one", "_law_ends", "_law_goal", "_law_seen"] rfl rfl rfl (by decide +kernel)) (i_enum z_enumerate (q_nmV 3)) (fun _ _ _ _ _ _ => (g_tup (g_cons (g_nm 0 (show List.Nodup (["_law_k", "_law_name", "_law_number"] : List Str) by decide +kernel)) (g_cons (g_nm 1 (show List.Nodup (["_law_k", "_law_name", "_law_number"] : List Str) by decide +kernel)) g_nil)))) (fun _ _ _ _ _ _ => (ts_one (t_cmp (op_eqT (by exact hr.units)) op2_eq (v2r (q_mod (v2r (q_div (q_nm 2) (v2r (q_ix (v2r (q_tup (a_consV q_int (a_consV q_int (a_consV q_int (a_consV q_int (a_consV q_int a_nilV))))))) (q_nm 0))))) (v2r q_int))) (v2r q_int)))) (fun _ _ _ _ _ _ => (q_nmV 1)))) a_nilR)))
    (b_cons (s_asg 5 sc_law.nd (q_add (q_nm 4) (v2r (q_slice (q_nm 3) o_none (o_some (v2r (q_mod (v2r (q_div (q_nm 2) (v2r q_int))) (v2r q_int))))))))
    (b_cons (s_asg 6 sc_law.nd (q_callC c_unseen hr (a_consV (q_nmV 1) (a_consV (q_nmV 4) a_nilV))))
    (b_cons (s_if (w_t (w_or (t_cmp (op_neT (by exact hr.units)) op2_ne (v2r (q_compV (own := ["_law_room"]) (caps := [(1, "_law_house_here"), (5, "_law_more")]) (compOk (sc := defScope s_law) ["_law_script", "_law_house_here", "_law_number", "_law_every", "_law_names", "_law_more", "_law_some", "_law_reachable", "_law_room", "_law_free", "_law_way", "_law_here", "_law_one", "_law_ends", "_law_goal", "_law_seen"] rfl rfl rfl (by decide +kernel)) (i_seq (q_nmV 6)) (fun _ _ _ _ _ _ => (g_nm 0 (show List.Nodup (["_law_room", "_law_house_here", "_law_more"] : List Str) by decide +kernel))) (fun _ _ _ _ _ _ => (ts_one (t_cmp (op_notInT (by exact hr.units)) op2_in (q_nm 0) (v2r (q_callC (by exact c_unseen) (by exact hr) (a_consV (q_nmV 1) (a_consV (q_nmV 2) a_nilV))))))) (fun _ _ _ _ _ _ => (q_nmV 0)))) (v2r (q_lstV a_nilV))) (w_or1 (t_cmp (op_neT (by exact hr.units)) op2_ne (v2r (q_slice (q_nm 6) o_none (o_some (v2r q_int)))) (v2r (q_tup (a_consV q_int a_nilV))))))) (b_one (s_ret (v2r q_bl))) b_nil)
    (b_cons (s_asgN 7 sc_law.nd (q_lst (a_consV q_int a_nilV)))
    (b_cons (s_for PassesOwn.never (i_rng2 z_range (v2r q_int) (v2r (q_add (v2r (q_ix (q_nm 1) (v2r q_int))) (v2r q_int)))) (g_nm 8 sc_law.nd)
    (b_cons (s_asg 9 sc_law.nd q_bl)
    (b_cons (s_for PassesOwn.never (i_seq (q_callC c_ways hr (a_consV (q_nmV 1) (a_consV (q_nmV 8) a_nilV)))) (g_nm 10 sc_law.nd)
    (b_cons (s_asgN 11 sc_law.nd (q_lst (a_consV q_int a_nilV)))
    (b_cons (s_for PassesOwn.never (i_seq (q_nmV 10)) (g_nm 12 sc_law.nd)
    (b_cons (s_asg 13 sc_law.nd (q_slice (v2r (q_ix (v2r (q_ix (q_nm 1) (v2r q_int))) (q_nm 12))) o_none (o_some (v2r q_int))))
    (b_cons (s_if (t_cmp (op_notInT (by exact hr.units)) op2_in (v2r (q_ix (q_nm 11) (v2r (q_neg (v2r q_int))))) (q_nm 13)) (b_one (s_ret (v2r q_bl))) b_nil)
    (b_cons (s_asg 14 sc_law.nd (q_sub (v2r (q_sumT rfl z_sum (a_consR (q_nm 13) a_nilR))) (v2r (q_ix (q_nm 11) (v2r (q_neg (v2r q_int)))))))
    (b_cons (s_if (t_cmp (op_inT (by exact hr.units)) op2_in (q_nm 14) (q_nm 11)) (b_one (s_ret (v2r q_bl))) b_nil)
    (b_one (s_app 11 (q_nmV 14))))))))
    (b_cons (s_if (t_cmp (op_neT (by exact hr.units)) op2_ne (v2r (q_ix (q_nm 11) (v2r (q_neg (v2r q_int))))) (q_nm 8)) (b_one (s_ret (v2r q_bl))) b_nil)
    (b_cons (s_asgC 15 sc_law.nd (own := ["_law_one"]) (caps := [(4, "_law_names"), (1, "_law_house_here")]) (compOk (sc := defScope s_law) ["_law_script", "_law_house_here", "_law_number", "_law_every", "_law_names", "_law_more", "_law_some", "_law_reachable", "_law_room", "_law_free", "_law_way", "_law_here", "_law_one", "_law_ends", "_law_goal", "_law_seen"] rfl rfl rfl (by decide +kernel)) (i_seq (q_nmV 10)) (fun _ _ _ _ _ _ => (g_nm 0 (show List.Nodup (["_law_one", "_law_names", "_law_house_here"] : List Str) by decide +kernel))) (fun _ _ _ _ _ _ => (ts_one (w_t (w_and (t_notN (v2r (q_ix (v2r (q_ix (v2r (q_ix (q_nm 2) (v2r q_int))) (q_nm 0))) (v2r q_int)))) (w_and1 (t_cmp (op_notInT (by exact hr.units)) op2_in (v2r (q_ix (v2r (q_ix (v2r (q_ix (q_nm 2) (v2r q_int))) (q_nm 0))) (v2r q_int))) (q_nm 1))))))) (fun _ _ _ _ _ _ => (q_nmV 0)))
    (b_one (s_asg 9 sc_law.nd (q_or (q_nmV 9) (q_or1 (q_cmp (op_eqT (by exact hr.units)) op2_eq (q_nm 15) (v2r (q_lstV a_nilV))))))))))))
    (b_cons (s_if (t_cmp (op_neT (by exact hr.units)) op2_ne (v2r (q_cmp (op_inT (by exact hr.units)) op2_in (q_nm 8) (q_nm 6))) (q_nm 9)) (b_one (s_ret (v2r q_bl))) b_nil)
    (b_one (s_if (t_cmp (op_neT (by exact hr.units)) op2_ne (v2r (q_callC c_ways hr (a_consV (q_nmV 1) (a_consV (q_nmV 8) a_nilV)))) (v2r (q_tup a_nilV))) (b_one (s_app 7 (q_nmV 8))) b_nil))))))
    (b_one (s_ret (v2r (q_and (q_cmp (op_eqT (by exact hr.units)) op2_eq (v2r (q_callC c_unseen hr (a_consV (q_nmV 1) (a_consV (q_nmV 3) a_nilV)))) (v2r (q_tuple z_tuple (a_consR (q_nm 7) a_nilR)))) (q_and1 (q_cmp (op_eqT (by exact hr.units)) op2_eq (v2r (q_list z_list (a_consR (q_nm 6) a_nilR))) (v2r (q_sortedSetA rfl z_sorted z_set (q_nm 6))))))))))))))))))
end
end K23
end
section
set_option linter.all false
set_option maxHeartbeats 4000000
namespace K23
open PySem D Ho
/-! ### small things -/
theorem atZ_nat {α : Type} {xs : List α} {k : Nat} {x : α} (h : xs[k]? = some x) : atZ xs (k : Int) = some x := by
  have hk : k < xs.length := by
    rcases Nat.lt_or_ge k xs.length with q | q
    · exact q
    · rw [List.getElem?_eq_none q] at h; cases h
  have hx : ixOf xs.length (k : Int) = some k := by
    unfold ixOf
    rw [if_pos (by omega), if_pos (by omega)]
    simp
  simp only [atZ, hx, Option.bind_some, h]
theorem okT_intsL (ns : List Int) : okT (.list (ns.map .int)) = true := by
  have := okL_ints ns
  simp [okT, PyData.canLay0, PyData.depth, this.1]
  omega
theorem eqv_intsL (ns ms : List Int) : PyData.eqv (.list (ns.map .int)) (.list (ms.map .int)) = decide (ns = ms) := by rw [PyData.eqv, eqvAll_ints]
theorem oEq_intsL (ns ms : List Int) : oEq (.list (ns.map .int)) (.list (ms.map .int)) = some (.bool (decide (ns = ms))) := by
  unfold oEq
  rw [okT_intsL, okT_intsL, eqv_intsL]
  rfl
theorem oNe_intsL (ns ms : List Int) : oNe (.list (ns.map .int)) (.list (ms.map .int)) = some (.bool (!decide (ns = ms))) := by
  unfold oNe
  rw [okT_intsL, okT_intsL, eqv_intsL]
  rfl
theorem oIn_intL (neg : Bool) (n : Int) (ns : List Int) : oIn neg (.int n) (.list (ns.map .int)) = some (.bool (if neg then !decide (n ∈ ns) else decide (n ∈ ns))) := by
  unfold oIn
  simp only [okT_int, okLs_ints, hasT_int, Bool.and_self, if_true]
theorem oNe_bool (a b : Bool) : oNe (.bool a) (.bool b) = some (.bool (a != b)) := by
  cases a <;> cases b <;> rfl
theorem oNe_int (a b : Int) : oNe (.int a) (.int b) = some (.bool (!decide (a = b))) := by
  simp [oNe, okT_int, PyData.eqv, Bool.beq_eq_decide_eq]
theorem iff_skip {c : Ft} {a : Fs} {ε : Ev} (h : c ε = some false) : iff c a skip ε = some (.nx ε) := (iff_no h).trans rfl
theorem nodup_le {α : Type} [DecidableEq α] : ∀ {l m : List α}, l.Nodup → (∀ x ∈ l, x ∈ m) → l.length ≤ m.length
  | [], m, _, _ => by simp
  | x :: l, m, nd, hs => by
    have n := List.nodup_cons.mp nd
    have hx := hs x (by simp)
    have ih := nodup_le (l := l) (m := m.erase x) n.2 fun y hy => (List.mem_erase_of_ne (fun (z : y = x) => n.1 (z ▸ hy))).mpr (hs y (by simp [hy]))
    rw [List.length_erase_of_mem hx] at ih
    have := List.length_pos_of_mem hx
    simp only [List.length_cons]
    omega
/-! ### the innermost loop -/
def envA (s h n e a m o : T) (re : List Int) (j8 j9 j10 j11 j12 j13 j14 j15 : Option Sl) : Ev :=
  [some (.imm s), some (.imm h), some (.imm n), some (.imm e), some (.imm a), some (.imm m), some (.imm o), some (.own (re.map .int)), j8, j9, j10, j11, j12, j13, j14, j15]
def bI : Fs := (seq (asg 13 (slice (op2 oIx (op2 oIx (nm 1) (cst (.int 1))) (nm 12)) optN (opt (cst (.int 2)))))
    (seq (iff (tstB (op2 (oIn true) (op2 oIx (nm 11) (op1 oNeg (cst (.int 1)))) (nm 13))) (rtn (cst (.bool false))) skip)
    (seq (asg 14 (op2 oSub (opN oSumT [(nm 13)]) (op2 oIx (nm 11) (op1 oNeg (cst (.int 1))))))
    (seq (iff (tstB (op2 (oIn false) (nm 14) (nm 11))) (rtn (cst (.bool false))) skip)
    (app 11 (nmV 14))))))
section
variable (s n e a m o : T) (R : Int) (os : List Op) (re : List Int)
theorem in_step (j8 j9 j10 j13 j14 j15 : Option Sl) (here : List Int) (k : Nat) (op : Op) (hk : os[k]? = some op) (hop : OpOk R op) (h7 : R ≤ 7) (cur t : Int) (hc : here.getLast? = some cur) (ha : Hg.adj (edge op) cur = some t) (ht : t ∉ here) (hl : here.length < 1000) :
    bI (envA s (houseT R os) n e a m o re j8 j9 j10 (some (.own (here.map .int))) (some (.imm (.int k))) j13 j14 j15) = some (.nx (envA s (houseT R os) n e a m o re j8 j9 j10 (some (.own ((here ++ [t]).map .int))) (some (.imm (.int k))) (some (.imm (.tuple ([op.1, op.2.1].map .int)))) (some (.imm (.int t))) j15)) := by
  obtain ⟨hs1, hs2⟩ := Hg.adj_sum ha
  have n1 : op2 oIx (op2 oIx (nm 1) (cst (.int 1))) (nm 12) (envA s (houseT R os) n e a m o re j8 j9 j10 (some (.own (here.map .int))) (some (.imm (.int k))) j13 j14 j15) = some (opT op) :=
    op2_of (x := .tuple (os.map opT)) (op2_of rfl rfl rfl) (y := .int k) rfl (atZ_nat (by rw [List.getElem?_map, hk]; rfl))
  have v13 : slice (op2 oIx (op2 oIx (nm 1) (cst (.int 1))) (nm 12)) optN (opt (cst (.int 2))) (envA s (houseT R os) n e a m o re j8 j9 j10 (some (.own (here.map .int))) (some (.imm (.int k))) j13 j14 j15) = some (.tuple ([op.1, op.2.1].map .int)) := by
    simp only [slice, n1, Option.bind_some, optN, opt, cst]
    rfl
  have s13 := asg_of (i := 13) v13
  have n11 : ∀ j13 j14, op2 oIx (nm 11) (op1 oNeg (cst (.int 1))) (envA s (houseT R os) n e a m o re j8 j9 j10 (some (.own (here.map .int))) (some (.imm (.int k))) j13 j14 j15) = some (.int cur) := fun j13 j14 =>
    op2_of (x := .list (here.map .int)) rfl (y := .int (-1)) rfl (last_ix hc)
  have c1 : tstB (op2 (oIn true) (op2 oIx (nm 11) (op1 oNeg (cst (.int 1)))) (nm 13)) (envA s (houseT R os) n e a m o re j8 j9 j10 (some (.own (here.map .int))) (some (.imm (.int k))) (some (.imm (.tuple ([op.1, op.2.1].map .int)))) j14 j15) = some false := by
    have hm : cur ∈ [op.1, op.2.1] := by
      rcases hs1 with q | q
      · rw [q]; simp [edge]
      · rw [q]; simp [edge]
    have := tstB_of (op2_of (g := nm 13) (n11 (some (.imm (.tuple ([op.1, op.2.1].map .int)))) j14) (y := .tuple ([op.1, op.2.1].map .int)) rfl (oIn_int true cur [op.1, op.2.1]))
    simpa [hm] using this
  have v14 : op2 oSub (opN oSumT [(nm 13)]) (op2 oIx (nm 11) (op1 oNeg (cst (.int 1)))) (envA s (houseT R os) n e a m o re j8 j9 j10 (some (.own (here.map .int))) (some (.imm (.int k))) (some (.imm (.tuple ([op.1, op.2.1].map .int)))) j14 j15) = some (.int t) := by
    have hsum : oSumT [.tuple ([op.1, op.2.1].map .int)] = some (.int (op.1 + op.2.1)) := by
      unfold OpOk at hop
      have hi : intsOf ([op.1, op.2.1].map PyData.int) = some [op.1, op.2.1] := rfl
      simp only [oSumT, hi, Option.bind_some]
      rw [if_pos]
      · simp
      · refine ⟨by simp, fun x hx => ?_⟩
        simp only [List.mem_cons, List.not_mem_nil, or_false] at hx
        rcases hx with rfl | rfl <;> omega
    have := op2_of (o := oSub) (opN_of (args1 (f := nm 13) (ε := envA s (houseT R os) n e a m o re j8 j9 j10 (some (.own (here.map .int))) (some (.imm (.int k))) (some (.imm (.tuple ([op.1, op.2.1].map .int)))) j14 j15) rfl) hsum) (n11 (some (.imm (.tuple ([op.1, op.2.1].map .int)))) j14) rfl
    rw [this]
    simp only [edge] at hs2
    rw [hs2]
  have s14 := asg_of (i := 14) v14
  have c2 : tstB (op2 (oIn false) (nm 14) (nm 11)) (envA s (houseT R os) n e a m o re j8 j9 j10 (some (.own (here.map .int))) (some (.imm (.int k))) (some (.imm (.tuple ([op.1, op.2.1].map .int)))) (some (.imm (.int t))) j15) = some false := by
    have := tstB_of (op2_of (o := oIn false) (ε := envA s (houseT R os) n e a m o re j8 j9 j10 (some (.own (here.map .int))) (some (.imm (.int k))) (some (.imm (.tuple ([op.1, op.2.1].map .int)))) (some (.imm (.int t))) j15) (f := nm 14) (g := nm 11) rfl (y := .list (here.map .int)) rfl (oIn_intL false t here))
    simpa [ht] using this
  have s5 : app 11 (nmV 14) (envA s (houseT R os) n e a m o re j8 j9 j10 (some (.own (here.map .int))) (some (.imm (.int k))) (some (.imm (.tuple ([op.1, op.2.1].map .int)))) (some (.imm (.int t))) j15) = some (.nx (envA s (houseT R os) n e a m o re j8 j9 j10 (some (.own ((here ++ [t]).map .int))) (some (.imm (.int k))) (some (.imm (.tuple ([op.1, op.2.1].map .int)))) (some (.imm (.int t))) j15)) := by
    have hb : (here.map PyData.int).length < big := by simp [big]; omega
    have e1 : nmV 14 (envA s (houseT R os) n e a m o re j8 j9 j10 (some (.own (here.map .int))) (some (.imm (.int k))) (some (.imm (.tuple ([op.1, op.2.1].map .int)))) (some (.imm (.int t))) j15) = some (.int t) := rfl
    have e2 : (envA s (houseT R os) n e a m o re j8 j9 j10 (some (.own (here.map .int))) (some (.imm (.int k))) (some (.imm (.tuple ([op.1, op.2.1].map .int)))) (some (.imm (.int t))) j15)[11]? = some (some (.own (here.map .int))) := rfl
    simp only [app, e2, e1, Option.bind_some]
    rw [if_pos hb, List.map_append]
    rfl
  unfold bI
  rw [seq_nx s13]
  exact (seq_nx (iff_skip c1)).trans ((seq_nx s14).trans ((seq_nx (iff_skip c2)).trans s5))
theorem in_loop (d : Drawn R os) (j8 j9 j10 j15 : Option Sl) : ∀ (w : List Nat) (cur : Int) (p here : List Int) (j12 j13 j14 : Option Sl), Hg.Fol (os.map edge) cur w p → here.getLast? = some cur → (∀ y ∈ p, y ∉ here) → p.Nodup → here.length + w.length < 1000 →
    ∃ j12' j13' j14', forL (gNm 12) bI (w.map fun (k : Nat) => PyData.int (k : Int)) (envA s (houseT R os) n e a m o re j8 j9 j10 (some (.own (here.map .int))) j12 j13 j14 j15) = some (.nx (envA s (houseT R os) n e a m o re j8 j9 j10 (some (.own ((here ++ p).map .int))) j12' j13' j14' j15))
  | [], cur, p, here, j12, j13, j14, h, _, _, _, _ => by
    have : p = [] := h
    subst this
    exact ⟨j12, j13, j14, by simp [forL]⟩
  | k :: w, cur, p, here, j12, j13, j14, ⟨e', t, q, h1, h2, h3, h4⟩, hc, hd, nd, hl => by
    subst h3
    simp only [List.length_cons] at hl
    rw [List.getElem?_map] at h1
    obtain ⟨op, hop, rfl⟩ := Option.map_eq_some_iff.mp h1
    have nd' := List.nodup_cons.mp nd
    have st := in_step s n e a m o R os re j8 j9 j10 j13 j14 j15 here k op hop (d.ok op (List.mem_of_getElem? hop)) d.r7 cur t hc h2 (hd t (by simp)) (by omega)
    obtain ⟨a1, a2, a3, ih⟩ := in_loop d j8 j9 j10 j15 w t q (here ++ [t]) (some (.imm (.int k))) (some (.imm (.tuple ([op.1, op.2.1].map .int)))) (some (.imm (.int t))) h4 (by simp) (fun y hy z => by
      rcases List.mem_append.mp z with z | z
      · exact hd y (by simp [hy]) z
      · have : y = t := by simpa using z
        subst this
        exact nd'.1 hy) nd'.2 (by simp; omega)
    refine ⟨a1, a2, a3, ?_⟩
    have e0 : gNm 12 (.int k) (envA s (houseT R os) n e a m o re j8 j9 j10 (some (.own (here.map .int))) j12 j13 j14 j15) = some (envA s (houseT R os) n e a m o re j8 j9 j10 (some (.own (here.map .int))) (some (.imm (.int k))) j13 j14 j15) := rfl
    rw [List.map_cons, forL_nx e0 st, ih, List.append_assoc]
    rfl
end
/-! ### the openings of a way that are watched -/
def pF (ns : List Str) (os : List Op) (k : Nat) : Bool := match os[k]? with
  | some o => free ns o
  | none => true
theorem comp_seen {ns : List Str} (hn : StrsOk ns) (R : Int) {os : List Op} (ho : OpsOk os) : ∀ (w : List Nat) (j : Option Sl), (∀ k ∈ w, k < os.length) →
    compL (gNm 0) (andT (tstB (op1 oNotN (op2 oIx (op2 oIx (op2 oIx (nm 2) (cst (.int 1))) (nm 0)) (cst (.int 2))))) (tstB (op2 (oIn true) (op2 oIx (op2 oIx (op2 oIx (nm 2) (cst (.int 1))) (nm 0)) (cst (.int 2))) (nm 1)))) (nmV 0) (w.map fun (k : Nat) => PyData.int (k : Int)) [j, some (.imm (.tuple (ns.map .str))), some (.imm (houseT R os))] = some (((w.filter fun k => !pF ns os k).map fun (k : Nat) => (k : Int)).map .int)
  | [], j, _ => rfl
  | k :: w, j, hw => by
    have ih := comp_seen hn R ho w (some (.imm (.int k))) fun k h => hw k (by simp [h])
    have hk := hw k (by simp)
    obtain ⟨op, hop⟩ : ∃ op, os[k]? = some op := ⟨os[k], List.getElem?_eq_getElem hk⟩
    have hmem := List.mem_of_getElem? hop
    have e0 : gNm 0 (.int k) [j, some (.imm (.tuple (ns.map .str))), some (.imm (houseT R os))] = some [some (.imm (.int k)), some (.imm (.tuple (ns.map .str))), some (.imm (houseT R os))] := rfl
    have n1 : op2 oIx (op2 oIx (op2 oIx (nm 2) (cst (.int 1))) (nm 0)) (cst (.int 2)) [some (.imm (.int k)), some (.imm (.tuple (ns.map .str))), some (.imm (houseT R os))] = some (zT op.2.2) :=
      op2_of (x := opT op) (op2_of (x := .tuple (os.map opT)) (op2_of rfl rfl rfl) (y := .int k) rfl (atZ_nat (by rw [List.getElem?_map, hop]; rfl))) rfl rfl
    have hpF : pF ns os k = free ns op := by simp only [pF, hop]
    have c : andT (tstB (op1 oNotN (op2 oIx (op2 oIx (op2 oIx (nm 2) (cst (.int 1))) (nm 0)) (cst (.int 2))))) (tstB (op2 (oIn true) (op2 oIx (op2 oIx (op2 oIx (nm 2) (cst (.int 1))) (nm 0)) (cst (.int 2))) (nm 1))) [some (.imm (.int k)), some (.imm (.tuple (ns.map .str))), some (.imm (houseT R os))] = some (!pF ns os k) := by
      rw [hpF]
      cases hz : op.2.2 with
      | none =>
        rw [hz] at n1
        have t1 := tstB_of (b := false) (op1_of (o := oNotN) n1 rfl)
        simp only [andT, t1, Option.bind_some, free, hz]
        rfl
      | some x =>
        rw [hz] at n1
        have t1 := tstB_of (b := true) (op1_of (o := oNotN) n1 rfl)
        have t2 := tstB_of (op2_of (o := oIn true) n1 (g := nm 1) rfl (oIn_str true x ns (ho op hmem x hz) hn))
        simp only [andT, t1, Option.bind_some, free, hz, t2]
        rfl
    have v : nmV 0 [some (.imm (.int k)), some (.imm (.tuple (ns.map .str))), some (.imm (houseT R os))] = some (.int k) := rfl
    cases hf : pF ns os k with
    | true => rw [hf] at c; simp only [List.map_cons, compL, e0, Option.bind_some, c, List.filter_cons, hf]; simpa using ih
    | false => rw [hf] at c; simp only [List.map_cons, compL, e0, Option.bind_some, c, List.filter_cons, hf, v, ih]; simp
/-! ### the ways of a room -/
def bY : Fs := (seq (asgN 11 (mkLst [(cst (.int 0))]))
    (seq (for_ (itSeq (nmV 10)) (gNm 12) bI)
    (seq (iff (tstB (op2 oNe (op2 oIx (nm 11) (op1 oNeg (cst (.int 1)))) (nm 8))) (rtn (cst (.bool false))) skip)
    (seq (asg 15 (comp 1 [4, 1] (itSeq (nmV 10)) (gNm 0) (andT (tstB (op1 oNotN (op2 oIx (op2 oIx (op2 oIx (nm 2) (cst (.int 1))) (nm 0)) (cst (.int 2))))) (tstB (op2 (oIn true) (op2 oIx (op2 oIx (op2 oIx (nm 2) (cst (.int 1))) (nm 0)) (cst (.int 2))) (nm 1)))) (nmV 0)))
    (asg 9 (orV (nmV 9) (op2 oEq (nm 15) (mkLst []))))))))
theorem fol_ix {E : List (Int × Int)} : ∀ {w : List Nat} {x : Int} {p : List Int}, Hg.Fol E x w p → ∀ k ∈ w, k < E.length
  | [], x, p, _, k, hk => by cases hk
  | j :: w, x, p, ⟨e, t, q, h1, _, _, h4⟩, k, hk => by
    rcases List.mem_cons.mp hk with rfl | hk
    · rcases Nat.lt_or_ge k E.length with q | q
      · exact q
      · rw [List.getElem?_eq_none q] at h1; cases h1
    · exact fol_ix h4 k hk
theorem fol_len {E : List (Int × Int)} : ∀ {w : List Nat} {x : Int} {p : List Int}, Hg.Fol E x w p → p.length = w.length
  | [], x, p, h => by
    have : p = [] := h
    subst this
    rfl
  | j :: w, x, p, ⟨e, t, q, h1, _, h3, h4⟩ => by
    subst h3
    simp [fol_len h4]
section
variable (s n e m o : T) (R : Int) (os : List Op) (ns : List Str) (re : List Int)
theorem y_step (d : Drawn R os) (hn : StrsOk ns) (room : Int) (f : Bool) (w : List Nat) (p : List Int) (hf : Hg.Fol (os.map edge) 0 w p) (nd : ((0 : Int) :: p).Nodup) (hl : ((0 : Int) :: p).getLast? = some room) (hw : w.length ≤ 100) (j11 j12 j13 j14 j15 : Option Sl) :
    ∃ j11' j12' j13' j14' j15', bY (envA s (houseT R os) n e (.tuple (ns.map .str)) m o re (some (.imm (.int room))) (some (.imm (.bool f))) (some (.imm (wT w))) j11 j12 j13 j14 j15) = some (.nx (envA s (houseT R os) n e (.tuple (ns.map .str)) m o re (some (.imm (.int room))) (some (.imm (.bool (f || w.all (pF ns os))))) (some (.imm (wT w))) j11' j12' j13' j14' j15')) := by
  have s1 : asgN 11 (mkLst [(cst (.int 0))]) (envA s (houseT R os) n e (.tuple (ns.map .str)) m o re (some (.imm (.int room))) (some (.imm (.bool f))) (some (.imm (wT w))) j11 j12 j13 j14 j15) = some (.nx (envA s (houseT R os) n e (.tuple (ns.map .str)) m o re (some (.imm (.int room))) (some (.imm (.bool f))) (some (.imm (wT w))) (some (.own ([0].map .int))) j12 j13 j14 j15)) := by
    simp [asgN, mkLst, args, cst, big, envA]
  obtain ⟨j12', j13', j14', h2⟩ := in_loop s n e (.tuple (ns.map .str)) m o R os re d (some (.imm (.int room))) (some (.imm (.bool f))) (some (.imm (wT w))) j15 w 0 p [0] j12 j13 j14 hf rfl (fun y hy z => (List.nodup_cons.mp nd).1 ((show y = 0 from by simpa using z) ▸ hy)) (List.nodup_cons.mp nd).2 (by simp; omega)
  have s2 : for_ (itSeq (nmV 10)) (gNm 12) bI (envA s (houseT R os) n e (.tuple (ns.map .str)) m o re (some (.imm (.int room))) (some (.imm (.bool f))) (some (.imm (wT w))) (some (.own ([0].map .int))) j12 j13 j14 j15) = some (.nx (envA s (houseT R os) n e (.tuple (ns.map .str)) m o re (some (.imm (.int room))) (some (.imm (.bool f))) (some (.imm (wT w))) (some (.own (((0 : Int) :: p).map .int))) j12' j13' j14' j15)) := by
    have it : itSeq (nmV 10) (envA s (houseT R os) n e (.tuple (ns.map .str)) m o re (some (.imm (.int room))) (some (.imm (.bool f))) (some (.imm (wT w))) (some (.own ([0].map .int))) j12 j13 j14 j15) = some (w.map fun (k : Nat) => PyData.int (k : Int)) := rfl
    simp only [for_, it, Option.bind_some]
    exact h2
  have c3 : tstB (op2 oNe (op2 oIx (nm 11) (op1 oNeg (cst (.int 1)))) (nm 8)) (envA s (houseT R os) n e (.tuple (ns.map .str)) m o re (some (.imm (.int room))) (some (.imm (.bool f))) (some (.imm (wT w))) (some (.own (((0 : Int) :: p).map .int))) j12' j13' j14' j15) = some false := by
    have := tstB_of (op2_of (o := oNe) (op2_of (o := oIx) (f := nm 11) (g := op1 oNeg (cst (.int 1))) (ε := envA s (houseT R os) n e (.tuple (ns.map .str)) m o re (some (.imm (.int room))) (some (.imm (.bool f))) (some (.imm (wT w))) (some (.own (((0 : Int) :: p).map .int))) j12' j13' j14' j15) (x := .list (((0 : Int) :: p).map .int)) rfl (y := .int (-1)) rfl (last_ix hl)) (g := nm 8) (y := .int room) rfl (oNe_int room room))
    simpa using this
  have v4 : comp 1 [4, 1] (itSeq (nmV 10)) (gNm 0) (andT (tstB (op1 oNotN (op2 oIx (op2 oIx (op2 oIx (nm 2) (cst (.int 1))) (nm 0)) (cst (.int 2))))) (tstB (op2 (oIn true) (op2 oIx (op2 oIx (op2 oIx (nm 2) (cst (.int 1))) (nm 0)) (cst (.int 2))) (nm 1)))) (nmV 0) (envA s (houseT R os) n e (.tuple (ns.map .str)) m o re (some (.imm (.int room))) (some (.imm (.bool f))) (some (.imm (wT w))) (some (.own (((0 : Int) :: p).map .int))) j12' j13' j14' j15) = some (.list (((w.filter fun k => !pF ns os k).map fun (k : Nat) => (k : Int)).map .int)) := by
    have it : itSeq (nmV 10) (envA s (houseT R os) n e (.tuple (ns.map .str)) m o re (some (.imm (.int room))) (some (.imm (.bool f))) (some (.imm (wT w))) (some (.own (((0 : Int) :: p).map .int))) j12' j13' j14' j15) = some (w.map fun (k : Nat) => PyData.int (k : Int)) := rfl
    have hcap : capEnv 1 [4, 1] (envA s (houseT R os) n e (.tuple (ns.map .str)) m o re (some (.imm (.int room))) (some (.imm (.bool f))) (some (.imm (wT w))) (some (.own (((0 : Int) :: p).map .int))) j12' j13' j14' j15) = [none, some (.imm (.tuple (ns.map .str))), some (.imm (houseT R os))] := rfl
    have hix : ∀ k ∈ w, k < os.length := fun k hk => by simpa using fol_ix hf k hk
    simp only [comp, it, Option.bind_some, hcap, comp_seen hn R (drawn_ops d) w none hix, List.length_map]
    rw [if_pos (by unfold big; omega)]
    rfl
  have s4 := asg_of (i := 15) v4
  have v5 : orV (nmV 9) (op2 oEq (nm 15) (mkLst [])) (envA s (houseT R os) n e (.tuple (ns.map .str)) m o re (some (.imm (.int room))) (some (.imm (.bool f))) (some (.imm (wT w))) (some (.own (((0 : Int) :: p).map .int))) j12' j13' j14' (some (.imm (.list (((w.filter fun k => !pF ns os k).map fun (k : Nat) => (k : Int)).map .int))))) = some (.bool (f || w.all (pF ns os))) := by
    have e9 : nmV 9 (envA s (houseT R os) n e (.tuple (ns.map .str)) m o re (some (.imm (.int room))) (some (.imm (.bool f))) (some (.imm (wT w))) (some (.own (((0 : Int) :: p).map .int))) j12' j13' j14' (some (.imm (.list (((w.filter fun k => !pF ns os k).map fun (k : Nat) => (k : Int)).map .int))))) = some (.bool f) := rfl
    cases f with
    | true => simp only [orV, e9, Option.bind_some, Bool.true_or]
    | false =>
      have he : op2 oEq (nm 15) (mkLst []) (envA s (houseT R os) n e (.tuple (ns.map .str)) m o re (some (.imm (.int room))) (some (.imm (.bool false))) (some (.imm (wT w))) (some (.own (((0 : Int) :: p).map .int))) j12' j13' j14' (some (.imm (.list (((w.filter fun k => !pF ns os k).map fun (k : Nat) => (k : Int)).map .int))))) = some (.bool (decide (((w.filter fun k => !pF ns os k).map fun (k : Nat) => (k : Int)) = []))) :=
        op2_of rfl (y := .list (([] : List Int).map .int)) (by simp [mkLst, args, big]) (oEq_intsL _ [])
      simp only [orV, e9, Option.bind_some, he, Bool.false_or]
      congr 2
      rw [Bool.eq_iff_iff]
      simp [List.filter_eq_nil_iff, List.all_eq_true]
  have s5 := asg_of (i := 9) v5
  refine ⟨some (.own (((0 : Int) :: p).map .int)), j12', j13', j14', some (.imm (.list (((w.filter fun k => !pF ns os k).map fun (k : Nat) => (k : Int)).map .int))), ?_⟩
  unfold bY
  rw [seq_nx s1, seq_nx s2, seq_nx (iff_skip c3)]
  exact (seq_nx s4).trans s5
theorem y_loop (d : Drawn R os) (hn : StrsOk ns) (room : Int) : ∀ (ws : List (List Nat)) (f : Bool) (j10 j11 j12 j13 j14 j15 : Option Sl), (∀ w ∈ ws, w.length ≤ 100 ∧ ∃ p, Hg.Fol (os.map edge) 0 w p ∧ ((0 : Int) :: p).Nodup ∧ ((0 : Int) :: p).getLast? = some room) →
    ∃ j10' j11' j12' j13' j14' j15', forL (gNm 10) bY (ws.map wT) (envA s (houseT R os) n e (.tuple (ns.map .str)) m o re (some (.imm (.int room))) (some (.imm (.bool f))) j10 j11 j12 j13 j14 j15) = some (.nx (envA s (houseT R os) n e (.tuple (ns.map .str)) m o re (some (.imm (.int room))) (some (.imm (.bool (f || ws.any fun w => w.all (pF ns os))))) j10' j11' j12' j13' j14' j15'))
  | [], f, j10, j11, j12, j13, j14, j15, _ => ⟨j10, j11, j12, j13, j14, j15, by simp [forL]⟩
  | w :: ws, f, j10, j11, j12, j13, j14, j15, h => by
    obtain ⟨h0, p, h1, h2, h3⟩ := h w (by simp)
    obtain ⟨a1, a2, a3, a4, a5, st⟩ := y_step s n e m o R os ns re d hn room f w p h1 h2 h3 h0 j11 j12 j13 j14 j15
    obtain ⟨b0, b1, b2, b3, b4, b5, ih⟩ := y_loop d hn room ws (f || w.all (pF ns os)) (some (.imm (wT w))) a1 a2 a3 a4 a5 fun w hw => h w (by simp [hw])
    refine ⟨b0, b1, b2, b3, b4, b5, ?_⟩
    have e0 : gNm 10 (wT w) (envA s (houseT R os) n e (.tuple (ns.map .str)) m o re (some (.imm (.int room))) (some (.imm (.bool f))) j10 j11 j12 j13 j14 j15) = some (envA s (houseT R os) n e (.tuple (ns.map .str)) m o re (some (.imm (.int room))) (some (.imm (.bool f))) (some (.imm (wT w))) j11 j12 j13 j14 j15) := rfl
    rw [List.map_cons, forL_nx e0 st, ih, List.any_cons, Bool.or_assoc]
end
/-! ### the rooms -/
def bR : Fs := (seq (asg 9 (cst (.bool false)))
    (seq (for_ (itSeq (opN d_ways [(nmV 1), (nmV 8)])) (gNm 10) bY)
    (seq (iff (tstB (op2 oNe (op2 (oIn false) (nm 8) (nm 6)) (nm 9))) (rtn (cst (.bool false))) skip)
    (iff (tstB (op2 oNe (opN d_ways [(nmV 1), (nmV 8)]) (mkTup []))) (app 7 (nmV 8)) skip))))
theorem free_way {ns : List Str} {os : List Op} {room : Int} {k : Nat} {ws : List (List Nat)} (h : Hg.waysP (os.map edge) room k [0] = some ws) : Hg.Reach (freeEdges ns os) room ↔ (ws.any fun w => w.all (pF ns os)) = true := by
  rw [Hg.reach_way (fun k => pF ns os k = true) (fun e he => ?_) (fun k e h1 h2 => ?_) h]
  · simp [List.any_eq_true, List.all_eq_true]
  · obtain ⟨op, hop, rfl⟩ := List.mem_map.mp he
    have hm := List.mem_filter.mp hop
    obtain ⟨k, hk⟩ := List.mem_iff_getElem?.mp hm.1
    exact ⟨k, by rw [List.getElem?_map, hk]; rfl, by simp only [pF, hk]; exact hm.2⟩
  · rw [List.getElem?_map] at h1
    obtain ⟨op, hop, rfl⟩ := Option.map_eq_some_iff.mp h1
    simp only [pF, hop] at h2
    exact List.mem_map.mpr ⟨op, List.mem_filter.mpr ⟨List.mem_of_getElem? hop, h2⟩, rfl⟩
theorem okT_ways (ws : List (List Nat)) : okT (.tuple (ws.map wT)) = true := by
  have : PyData.canLayAll0 (ws.map wT) = true ∧ PyData.depthAll (ws.map wT) ≤ 2 := by
    induction ws with
    | nil => simp [PyData.canLayAll0, PyData.depthAll]
    | cons w ws ih =>
      have hi := okL_ints (w.map fun (k : Nat) => (k : Int))
      rw [List.map_map] at hi
      have e : wT w = .tuple (w.map (PyData.int ∘ fun (k : Nat) => (k : Int))) := rfl
      rw [List.map_cons, e]
      simp only [PyData.canLayAll0, PyData.canLay0, PyData.depthAll, PyData.depth, hi.1, ih.1, Bool.and_self, true_and]
      have := hi.2
      have := ih.2
      omega
  simp [okT, PyData.canLay0, PyData.depth, this.1]
  omega
theorem oNe_ways_nil (ws : List (List Nat)) : oNe (.tuple (ws.map wT)) (.tuple []) = some (.bool (!ws.isEmpty)) := by
  unfold oNe
  rw [okT_ways, show okT (.tuple []) = true from by decide +kernel]
  cases ws <;> rfl
section
variable (s n e m : T) (R : Int) (os : List Op) (ns : List Str)
theorem r_step (d : Drawn R os) (hn : StrsOk ns) (re : List Int) (hr : re.length < 1000) (room : Int) (p : Int → Bool) (hp : ∀ x, p x = true ↔ Hg.Reach (os.map edge) x) (j9 j10 j11 j12 j13 j14 j15 : Option Sl) :
    ∃ j9' j10' j11' j12' j13' j14' j15', bR (envA s (houseT R os) n e (.tuple (ns.map .str)) m (.tuple ((reachL (freeEdges ns os)).map .int)) re (some (.imm (.int room))) j9 j10 j11 j12 j13 j14 j15) = some (.nx (envA s (houseT R os) n e (.tuple (ns.map .str)) m (.tuple ((reachL (freeEdges ns os)).map .int)) (re ++ [room].filter p) (some (.imm (.int room))) j9' j10' j11' j12' j13' j14' j15')) := by
  obtain ⟨ws, h1, h2, h3⟩ := ways_val d room
  have s1 : asg 9 (cst (.bool false)) (envA s (houseT R os) n e (.tuple (ns.map .str)) m (.tuple ((reachL (freeEdges ns os)).map .int)) re (some (.imm (.int room))) j9 j10 j11 j12 j13 j14 j15) = some (.nx (envA s (houseT R os) n e (.tuple (ns.map .str)) m (.tuple ((reachL (freeEdges ns os)).map .int)) re (some (.imm (.int room))) (some (.imm (.bool false))) j10 j11 j12 j13 j14 j15)) := rfl
  obtain ⟨a0, a1, a2, a3, a4, a5, hy⟩ := y_loop s n e m (.tuple ((reachL (freeEdges ns os)).map .int)) R os ns re d hn room ws false j10 j11 j12 j13 j14 j15 fun w hw => ⟨Nat.le_trans (ways_lens 20 [0] ws h1 w hw) (by decide), (Hg.ways_char h1 w).mp hw⟩
  have hww : ∀ (x : Option Sl) (j10 j11 j12 j13 j14 j15 : Option Sl), opN d_ways [(nmV 1), (nmV 8)] (envA s (houseT R os) n e (.tuple (ns.map .str)) m (.tuple ((reachL (freeEdges ns os)).map .int)) re (some (.imm (.int room))) x j10 j11 j12 j13 j14 j15) = some (.tuple (ws.map wT)) := fun x j10 j11 j12 j13 j14 j15 => opN_of (args2 rfl rfl) h2
  have s2 : for_ (itSeq (opN d_ways [(nmV 1), (nmV 8)])) (gNm 10) bY (envA s (houseT R os) n e (.tuple (ns.map .str)) m (.tuple ((reachL (freeEdges ns os)).map .int)) re (some (.imm (.int room))) (some (.imm (.bool false))) j10 j11 j12 j13 j14 j15) = some (.nx (envA s (houseT R os) n e (.tuple (ns.map .str)) m (.tuple ((reachL (freeEdges ns os)).map .int)) re (some (.imm (.int room))) (some (.imm (.bool (false || ws.any fun w => w.all (pF ns os))))) a0 a1 a2 a3 a4 a5)) := by
    simp only [for_, itSeq, hww, Option.bind_some]
    exact hy
  obtain ⟨_, hmem, _, _⟩ := reach_ok (within_free d ns) (by have := d.r1; omega) d.r7
  have hin : decide (room ∈ reachL (freeEdges ns os)) = (ws.any fun w => w.all (pF ns os)) := by
    rw [Bool.eq_iff_iff, decide_eq_true_iff, hmem]
    exact free_way h1
  have c3 : tstB (op2 oNe (op2 (oIn false) (nm 8) (nm 6)) (nm 9)) (envA s (houseT R os) n e (.tuple (ns.map .str)) m (.tuple ((reachL (freeEdges ns os)).map .int)) re (some (.imm (.int room))) (some (.imm (.bool (false || ws.any fun w => w.all (pF ns os))))) a0 a1 a2 a3 a4 a5) = some false := by
    have := tstB_of (op2_of (o := oNe) (g := nm 9) (op2_of (o := oIn false) (f := nm 8) (g := nm 6) (ε := envA s (houseT R os) n e (.tuple (ns.map .str)) m (.tuple ((reachL (freeEdges ns os)).map .int)) re (some (.imm (.int room))) (some (.imm (.bool (false || ws.any fun w => w.all (pF ns os))))) a0 a1 a2 a3 a4 a5) rfl rfl (oIn_int false room _)) rfl (oNe_bool _ _))
    rw [this]
    simp only [Bool.false_eq_true, if_false, hin, Bool.false_or]
    simp
  have c4 : tstB (op2 oNe (opN d_ways [(nmV 1), (nmV 8)]) (mkTup [])) (envA s (houseT R os) n e (.tuple (ns.map .str)) m (.tuple ((reachL (freeEdges ns os)).map .int)) re (some (.imm (.int room))) (some (.imm (.bool (false || ws.any fun w => w.all (pF ns os))))) a0 a1 a2 a3 a4 a5) = some (!ws.isEmpty) :=
    tstB_of (op2_of (hww _ _ _ _ _ _ _) (mkTup_of (xs := []) rfl (by decide)) (oNe_ways_nil ws))
  have hpw : p room = !ws.isEmpty := by
    rw [Bool.eq_iff_iff, hp, ← h3]
    cases ws <;> simp
  refine ⟨some (.imm (.bool (false || ws.any fun w => w.all (pF ns os)))), a0, a1, a2, a3, a4, a5, ?_⟩
  unfold bR
  rw [seq_nx s1, seq_nx s2, seq_nx (iff_skip c3)]
  by_cases hk : ws.isEmpty = true
  · rw [hk] at c4 hpw
    rw [iff_skip c4]
    simp only [List.filter_cons, hpw, List.filter_nil]
    simp
  · rw [Bool.not_eq_true] at hk
    rw [hk] at c4 hpw
    rw [iff_yes c4]
    simp only [List.filter_cons, hpw, List.filter_nil]
    have hb : (re.map PyData.int).length < big := by simp [big]; omega
    have e2 : (envA s (houseT R os) n e (.tuple (ns.map .str)) m (.tuple ((reachL (freeEdges ns os)).map .int)) re (some (.imm (.int room))) (some (.imm (.bool (false || ws.any fun w => w.all (pF ns os))))) a0 a1 a2 a3 a4 a5)[7]? = some (some (.own (re.map .int))) := rfl
    have e1 : nmV 8 (envA s (houseT R os) n e (.tuple (ns.map .str)) m (.tuple ((reachL (freeEdges ns os)).map .int)) re (some (.imm (.int room))) (some (.imm (.bool (false || ws.any fun w => w.all (pF ns os))))) a0 a1 a2 a3 a4 a5) = some (.int room) := rfl
    simp only [app, e2, e1, Option.bind_some]
    rw [if_pos hb]
    simp [envA]
theorem r_loop (d : Drawn R os) (hn : StrsOk ns) (p : Int → Bool) (hp : ∀ x, p x = true ↔ Hg.Reach (os.map edge) x) : ∀ (ks re : List Int) (j8 j9 j10 j11 j12 j13 j14 j15 : Option Sl), re.length + ks.length < 1000 →
    ∃ j8' j9' j10' j11' j12' j13' j14' j15', forL (gNm 8) bR (ks.map .int) (envA s (houseT R os) n e (.tuple (ns.map .str)) m (.tuple ((reachL (freeEdges ns os)).map .int)) re j8 j9 j10 j11 j12 j13 j14 j15) = some (.nx (envA s (houseT R os) n e (.tuple (ns.map .str)) m (.tuple ((reachL (freeEdges ns os)).map .int)) (re ++ ks.filter p) j8' j9' j10' j11' j12' j13' j14' j15'))
  | [], re, j8, j9, j10, j11, j12, j13, j14, j15, _ => ⟨j8, j9, j10, j11, j12, j13, j14, j15, by simp [forL]⟩
  | k :: ks, re, j8, j9, j10, j11, j12, j13, j14, j15, hl => by
    simp only [List.length_cons] at hl
    obtain ⟨a9, a0, a1, a2, a3, a4, a5, st⟩ := r_step s n e m R os ns d hn re (by omega) k p hp j9 j10 j11 j12 j13 j14 j15
    have hf : ([k].filter p).length ≤ 1 := List.length_filter_le _ _
    obtain ⟨b8, b9, b0, b1, b2, b3, b4, b5, ih⟩ := r_loop d hn p hp ks (re ++ [k].filter p) (some (.imm (.int k))) a9 a0 a1 a2 a3 a4 a5 (by simp only [List.length_append]; omega)
    refine ⟨b8, b9, b0, b1, b2, b3, b4, b5, ?_⟩
    have e0 : gNm 8 (.int k) (envA s (houseT R os) n e (.tuple (ns.map .str)) m (.tuple ((reachL (freeEdges ns os)).map .int)) re j8 j9 j10 j11 j12 j13 j14 j15) = some (envA s (houseT R os) n e (.tuple (ns.map .str)) m (.tuple ((reachL (freeEdges ns os)).map .int)) re (some (.imm (.int k))) j9 j10 j11 j12 j13 j14 j15) := rfl
    rw [List.map_cons, forL_nx e0 st, ih, List.append_assoc, ← List.filter_append]
    rfl
end
/-! ### the names -/
theorem pow_ix (i : Nat) (h : i < 5) (ε : Ev) : ∃ p : Int, 1 ≤ p ∧ p ≤ 16 ∧ (mkTup [(cst (.int 1)), (cst (.int 2)), (cst (.int 4)), (cst (.int 8)), (cst (.int 16))] ε).bind (fun t => oIx t (.int i)) = some (.int p) := by
  have hc : i = 0 ∨ i = 1 ∨ i = 2 ∨ i = 3 ∨ i = 4 := by omega
  have e : mkTup [(cst (.int 1)), (cst (.int 2)), (cst (.int 4)), (cst (.int 8)), (cst (.int 16))] ε = some (.tuple [.int 1, .int 2, .int 4, .int 8, .int 16]) := by
    simp [mkTup, args, cst, big]
  rw [e]
  rcases hc with rfl | rfl | rfl | rfl | rfl
  · exact ⟨1, by decide, by decide, rfl⟩
  · exact ⟨2, by decide, by decide, rfl⟩
  · exact ⟨4, by decide, by decide, rfl⟩
  · exact ⟨8, by decide, by decide, rfl⟩
  · exact ⟨16, by decide, by decide, rfl⟩
theorem comp_names (num : Int) : ∀ (ps : List (Nat × Str)) (j0 j1 : Option Sl), (∀ p ∈ ps, p.1 < 5) → ∃ ns : List Str, (∀ x ∈ ns, ∃ p ∈ ps, p.2 = x) ∧ ns.length ≤ ps.length ∧
    compL (gTu [(gNm 0), (gNm 1)]) (tstB (op2 oEq (op2 oMod (op2 oDiv (nm 2) (op2 oIx (mkTup [(cst (.int 1)), (cst (.int 2)), (cst (.int 4)), (cst (.int 8)), (cst (.int 16))]) (nm 0))) (cst (.int 2))) (cst (.int 1)))) (nmV 1) (ps.map fun p => .tuple [.int (p.1 : Nat), .str p.2]) [j0, j1, some (.imm (.int num))] = some (ns.map .str)
  | [], j0, j1, _ => ⟨[], by simp, by simp, rfl⟩
  | p :: ps, j0, j1, h => by
    obtain ⟨ns, h1, h2, h3⟩ := comp_names num ps (some (.imm (.int p.1))) (some (.imm (.str p.2))) fun q hq => h q (by simp [hq])
    obtain ⟨q, q1, q2, hq⟩ := pow_ix p.1 (h p (by simp)) [some (.imm (.int p.1)), some (.imm (.str p.2)), some (.imm (.int num))]
    have e0 : gTu [(gNm 0), (gNm 1)] (.tuple [.int (p.1 : Nat), .str p.2]) [j0, j1, some (.imm (.int num))] = some [some (.imm (.int p.1)), some (.imm (.str p.2)), some (.imm (.int num))] := rfl
    have hi : op2 oIx (mkTup [(cst (.int 1)), (cst (.int 2)), (cst (.int 4)), (cst (.int 8)), (cst (.int 16))]) (nm 0) [some (.imm (.int p.1)), some (.imm (.str p.2)), some (.imm (.int num))] = some (.int q) := by
      rw [← hq]
      rfl
    have c : tstB (op2 oEq (op2 oMod (op2 oDiv (nm 2) (op2 oIx (mkTup [(cst (.int 1)), (cst (.int 2)), (cst (.int 4)), (cst (.int 8)), (cst (.int 16))]) (nm 0))) (cst (.int 2))) (cst (.int 1))) [some (.imm (.int p.1)), some (.imm (.str p.2)), some (.imm (.int num))] = some (decide (num / q % 2 = 1)) :=
      tstB_of (op2_of (op2_of (op2_of (f := nm 2) (x := .int num) rfl hi (div_ok (by omega))) rfl (mod_ok (j := 2) (by decide))) rfl (oEq_int _ _))
    have v : nmV 1 [some (.imm (.int p.1)), some (.imm (.str p.2)), some (.imm (.int num))] = some (.str p.2) := rfl
    by_cases hc : num / q % 2 = 1
    · refine ⟨p.2 :: ns, fun x hx => ?_, by simp; omega, ?_⟩
      · rcases List.mem_cons.mp hx with rfl | hx
        · exact ⟨p, by simp, rfl⟩
        · obtain ⟨y, y1, y2⟩ := h1 x hx
          exact ⟨y, by simp [y1], y2⟩
      · simp only [List.map_cons, compL, e0, c, v, h3, hc, decide_true, Option.bind_some, if_true, Option.map_some]
    · refine ⟨ns, fun x hx => ?_, by simp; omega, ?_⟩
      · obtain ⟨y, y1, y2⟩ := h1 x hx
        exact ⟨y, by simp [y1], y2⟩
      · simp only [List.map_cons, compL, e0, c, h3, hc, decide_false, Option.bind_some]
        simp
theorem comp_none {R : Int} {os : List Op} (d : Drawn R os) {mo : List Str} (hm : StrsOk mo) : ∀ (ks : List Int) (j : Option Sl), (∀ k ∈ ks, k ∈ reachL (freeEdges mo os)) →
    compL (gNm 0) (tstB (op2 (oIn true) (nm 0) (opN d_unseen [(nmV 1), (nmV 2)]))) (nmV 0) (ks.map .int) [j, some (.imm (houseT R os)), some (.imm (.tuple (mo.map .str)))] = some []
  | [], j, _ => rfl
  | k :: ks, j, h => by
    have ih := comp_none d hm ks (some (.imm (.int k))) fun k hk => h k (by simp [hk])
    have hk := h k (by simp)
    have e0 : gNm 0 (.int k) [j, some (.imm (houseT R os)), some (.imm (.tuple (mo.map .str)))] = some [some (.imm (.int k)), some (.imm (houseT R os)), some (.imm (.tuple (mo.map .str)))] := rfl
    have c : tstB (op2 (oIn true) (nm 0) (opN d_unseen [(nmV 1), (nmV 2)])) [some (.imm (.int k)), some (.imm (houseT R os)), some (.imm (.tuple (mo.map .str)))] = some false := by
      have := tstB_of (op2_of (o := oIn true) (f := nm 0) (ε := [some (.imm (.int k)), some (.imm (houseT R os)), some (.imm (.tuple (mo.map .str)))]) rfl (opN_of (args2 (f := nmV 1) (g := nmV 2) rfl rfl) (unseen_val d hm)) (oIn_int true k _))
      simpa [hk] using this
    simp only [List.map_cons, compL, e0, c, Option.bind_some, ih]
    simp
theorem free_mono {ns mo : List Str} {os : List Op} (h : ∀ x ∈ ns, x ∈ mo) : ∀ e ∈ freeEdges ns os, e ∈ freeEdges mo os := fun e he => by
  obtain ⟨op, hop, rfl⟩ := List.mem_map.mp he
  have hm := List.mem_filter.mp hop
  refine List.mem_map.mpr ⟨op, List.mem_filter.mpr ⟨hm.1, ?_⟩, rfl⟩
  have h2 := hm.2
  obtain ⟨a, b, z⟩ := op
  cases z with
  | none => rfl
  | some x =>
    simp only [free, decide_eq_true_eq] at h2 ⊢
    exact h x h2
theorem reach_head {R : Int} {F : List (Int × Int)} (hE : Hg.Within R F) (h0 : 0 ≤ R) (h7 : R ≤ 7) : ∃ r, reachL F = 0 :: r := by
  obtain ⟨_, hm, hpw, hb⟩ := reach_ok hE h0 h7
  have hz : (0 : Int) ∈ reachL F := (hm 0).mpr .zero
  cases hl : reachL F with
  | nil => rw [hl] at hz; cases hz
  | cons a r =>
    rw [hl] at hz hpw hb
    rcases List.mem_cons.mp hz with q | q
    · exact ⟨r, by rw [q]⟩
    · have h1 := (List.pairwise_cons.mp hpw).1 0 q
      have h2 := (hb a (by simp)).1
      omega
def env0 (sc : List Int) : Ev := [some (.imm (scriptT sc)), none, none, none, none, none, none, none, none, none, none, none, none, none, none, none]
theorem intsOf_ints : ∀ (ns : List Int), intsOf (ns.map .int) = some ns
  | [] => rfl
  | x :: r => by
    simp only [List.map_cons, intsOf, intsOf_ints r]
    rfl
open Classical in
theorem law_true (sc : List Int) : d_law [scriptT sc] = some (.bool true) := by
  obtain ⟨m0, hm0, e0⟩ := mixed_eq sc 0
  obtain ⟨m1, hm1, e1⟩ := mixed_eq sc 1
  obtain ⟨R, os, d, eh⟩ := house_eq m0 hm0
  have hR1 := d.r1
  have hR7 := d.r7
  have hlen := d.len
  -- the zones
  have zn5 : ∀ x ∈ zonesL os, x ∈ names5 := fun x hx => by
    obtain ⟨op, hop, hz⟩ := zones_mem.mp hx
    exact (d.ok op hop).2.2.2 x hz
  have zl : (zonesL os).length ≤ 5 := nodup_le (m := names5) (zones_nd os) zn5
  have zok := strsOk_zones d
  -- the names
  obtain ⟨ns, hn1, hn2, hn3⟩ := comp_names m1 ((zonesL os).zipIdx.map fun p => (p.2, p.1)) none none (fun p hp => by
    obtain ⟨q, hq, rfl⟩ := List.mem_map.mp hp
    have := List.snd_lt_of_mem_zipIdx hq
    simp at this ⊢
    omega)
  have nsz : ∀ x ∈ ns, x ∈ zonesL os := fun x hx => by
    obtain ⟨p, hp, rfl⟩ := hn1 x hx
    obtain ⟨q, hq, rfl⟩ := List.mem_map.mp hp
    exact List.fst_mem_of_mem_zipIdx hq
  have nok : StrsOk ns := fun x hx => zok x (nsz x hx)
  have nl : ns.length ≤ 5 := by simp at hn2; omega
  have s1 : asg 1 (opN d_l_house [(opN d_l_mixed [(nmV 0), (cst (.int 0))])]) (env0 sc) = some (.nx [some (.imm (scriptT sc)), some (.imm (houseT R os)), none, none, none, none, none, none, none, none, none, none, none, none, none, none]) :=
    asg_of (opN_of (args1 (opN_of (args2 rfl rfl) e0)) eh)
  have s2 : asg 2 (opN d_l_mixed [(nmV 0), (cst (.int 1))]) [some (.imm (scriptT sc)), some (.imm (houseT R os)), none, none, none, none, none, none, none, none, none, none, none, none, none, none] = some (.nx [some (.imm (scriptT sc)), some (.imm (houseT R os)), some (.imm (.int m1)), none, none, none, none, none, none, none, none, none, none, none, none, none]) :=
    asg_of (opN_of (args2 rfl rfl) e1)
  have s3 : asg 3 (opN d_zones_of [(nmV 1)]) [some (.imm (scriptT sc)), some (.imm (houseT R os)), some (.imm (.int m1)), none, none, none, none, none, none, none, none, none, none, none, none, none] = some (.nx [some (.imm (scriptT sc)), some (.imm (houseT R os)), some (.imm (.int m1)), some (.imm (.tuple ((zonesL os).map .str))), none, none, none, none, none, none, none, none, none, none, none, none]) :=
    asg_of (opN_of (args1 rfl) (zones_eq hlen))
  have s4 : asg 4 (opN oTuple [(comp 2 [2] (itEnum (itTup (nmV 3))) (gTu [(gNm 0), (gNm 1)]) (tstB (op2 oEq (op2 oMod (op2 oDiv (nm 2) (op2 oIx (mkTup [(cst (.int 1)), (cst (.int 2)), (cst (.int 4)), (cst (.int 8)), (cst (.int 16))]) (nm 0))) (cst (.int 2))) (cst (.int 1)))) (nmV 1))]) [some (.imm (scriptT sc)), some (.imm (houseT R os)), some (.imm (.int m1)), some (.imm (.tuple ((zonesL os).map .str))), none, none, none, none, none, none, none, none, none, none, none, none] =
      some (.nx [some (.imm (scriptT sc)), some (.imm (houseT R os)), some (.imm (.int m1)), some (.imm (.tuple ((zonesL os).map .str))), some (.imm (.tuple (ns.map .str))), none, none, none, none, none, none, none, none, none, none, none]) := by
    have it : itEnum (itTup (nmV 3)) [some (.imm (scriptT sc)), some (.imm (houseT R os)), some (.imm (.int m1)), some (.imm (.tuple ((zonesL os).map .str))), none, none, none, none, none, none, none, none, none, none, none, none] = some (((zonesL os).zipIdx.map fun p => (p.2, p.1)).map fun p => PyData.tuple [.int ((p.1 : Nat) : Int), .str p.2]) := by
      have h1 : itTup (nmV 3) [some (.imm (scriptT sc)), some (.imm (houseT R os)), some (.imm (.int m1)), some (.imm (.tuple ((zonesL os).map .str))), none, none, none, none, none, none, none, none, none, none, none, none] = some ((zonesL os).map .str) := rfl
      simp only [itEnum, h1, Option.map_some, enum, List.zipIdx_map, List.map_map, Function.comp_def, Prod.map]
      rfl
    have hcap : capEnv 2 [2] [some (.imm (scriptT sc)), some (.imm (houseT R os)), some (.imm (.int m1)), some (.imm (.tuple ((zonesL os).map .str))), none, none, none, none, none, none, none, none, none, none, none, none] = [none, none, some (.imm (.int m1))] := rfl
    refine asg_of (opN_of (args1 (x := .list (ns.map .str)) ?_) rfl)
    simp only [comp, it, Option.bind_some, hcap]
    rw [if_pos (by simp [big]; omega), hn3]
    rfl
  -- more of them
  obtain ⟨mo, mo1, s5⟩ : ∃ j : Nat, ∃ s5 : True, asg 5 (op2 oAdd (nm 4) (slice (nm 3) optN (opt (op2 oMod (op2 oDiv (nm 2) (cst (.int 32))) (cst (.int 6)))))) [some (.imm (scriptT sc)), some (.imm (houseT R os)), some (.imm (.int m1)), some (.imm (.tuple ((zonesL os).map .str))), some (.imm (.tuple (ns.map .str))), none, none, none, none, none, none, none, none, none, none, none] =
      some (.nx [some (.imm (scriptT sc)), some (.imm (houseT R os)), some (.imm (.int m1)), some (.imm (.tuple ((zonesL os).map .str))), some (.imm (.tuple (ns.map .str))), some (.imm (.tuple ((ns ++ (zonesL os).take j).map .str))), none, none, none, none, none, none, none, none, none, none]) := by
    have hv : op2 oMod (op2 oDiv (nm 2) (cst (.int 32))) (cst (.int 6)) [some (.imm (scriptT sc)), some (.imm (houseT R os)), some (.imm (.int m1)), some (.imm (.tuple ((zonesL os).map .str))), some (.imm (.tuple (ns.map .str))), none, none, none, none, none, none, none, none, none, none, none] = some (.int (m1 / 32 % 6)) :=
      op2_of (op2_of (f := nm 2) (x := .int m1) rfl rfl (div_ok (j := 32) (by decide))) rfl (mod_ok (j := 6) (by decide))
    refine ⟨D.sIx (zonesL os).length (zonesL os).length (some (m1 / 32 % 6)), trivial, ?_⟩
    have hs : slice (nm 3) optN (opt (op2 oMod (op2 oDiv (nm 2) (cst (.int 32))) (cst (.int 6)))) [some (.imm (scriptT sc)), some (.imm (houseT R os)), some (.imm (.int m1)), some (.imm (.tuple ((zonesL os).map .str))), some (.imm (.tuple (ns.map .str))), none, none, none, none, none, none, none, none, none, none, none] = some (.tuple (((zonesL os).take (D.sIx (zonesL os).length (zonesL os).length (some (m1 / 32 % 6)))).map .str)) := by
      have h3 : nm 3 [some (.imm (scriptT sc)), some (.imm (houseT R os)), some (.imm (.int m1)), some (.imm (.tuple ((zonesL os).map .str))), some (.imm (.tuple (ns.map .str))), none, none, none, none, none, none, none, none, none, none, none] = some (.tuple ((zonesL os).map .str)) := rfl
      simp only [slice, h3, Option.bind_some, optN, opt, hv, oSl, cutZ, List.length_map, List.map_take]
      rfl
    refine asg_of ((op2_of (f := nm 4) (x := .tuple (ns.map .str)) rfl hs (tup_add ?_)).trans (by rw [List.map_append]))
    simp only [List.length_map, List.length_take]
    omega
  have mz : ∀ x ∈ ns ++ (zonesL os).take mo, x ∈ zonesL os := fun x hx => by
    rcases List.mem_append.mp hx with q | q
    · exact nsz x q
    · exact List.mem_of_mem_take q
  have mok : StrsOk (ns ++ (zonesL os).take mo) := fun x hx => zok x (mz x hx)
  have s6 : asg 6 (opN d_unseen [(nmV 1), (nmV 4)]) [some (.imm (scriptT sc)), some (.imm (houseT R os)), some (.imm (.int m1)), some (.imm (.tuple ((zonesL os).map .str))), some (.imm (.tuple (ns.map .str))), some (.imm (.tuple ((ns ++ (zonesL os).take mo).map .str))), none, none, none, none, none, none, none, none, none, none] =
      some (.nx [some (.imm (scriptT sc)), some (.imm (houseT R os)), some (.imm (.int m1)), some (.imm (.tuple ((zonesL os).map .str))), some (.imm (.tuple (ns.map .str))), some (.imm (.tuple ((ns ++ (zonesL os).take mo).map .str))), some (.imm (.tuple ((reachL (freeEdges ns os)).map .int))), none, none, none, none, none, none, none, none, none]) :=
    asg_of (opN_of (args2 rfl rfl) (unseen_val d nok))
  obtain ⟨_, hsm, hspw, hsb⟩ := reach_ok (within_free d ns) (by omega) d.r7
  obtain ⟨_, hmm, _, _⟩ := reach_ok (within_free d (ns ++ (zonesL os).take mo)) (by omega) d.r7
  obtain ⟨_, ham, hapw, hab⟩ := reach_ok (within_all d) (by omega) d.r7
  have slen : (reachL (freeEdges ns os)).length ≤ 8 := Hg.nodup_len 8 _ (hspw.imp fun h => Int.ne_of_lt h) fun x hx => by have := hsb x hx; omega
  obtain ⟨rs, hrs⟩ := reach_head (within_free d ns) (by omega) d.r7
  have t7 : orT (tstB (op2 oNe (comp 1 [1, 5] (itSeq (nmV 6)) (gNm 0) (tstB (op2 (oIn true) (nm 0) (opN d_unseen [(nmV 1), (nmV 2)]))) (nmV 0)) (mkLst []))) (tstB (op2 oNe (slice (nm 6) optN (opt (cst (.int 1)))) (mkTup [(cst (.int 0))]))) [some (.imm (scriptT sc)), some (.imm (houseT R os)), some (.imm (.int m1)), some (.imm (.tuple ((zonesL os).map .str))), some (.imm (.tuple (ns.map .str))), some (.imm (.tuple ((ns ++ (zonesL os).take mo).map .str))), some (.imm (.tuple ((reachL (freeEdges ns os)).map .int))), none, none, none, none, none, none, none, none, none] = some false := by
    have hc : comp 1 [1, 5] (itSeq (nmV 6)) (gNm 0) (tstB (op2 (oIn true) (nm 0) (opN d_unseen [(nmV 1), (nmV 2)]))) (nmV 0) [some (.imm (scriptT sc)), some (.imm (houseT R os)), some (.imm (.int m1)), some (.imm (.tuple ((zonesL os).map .str))), some (.imm (.tuple (ns.map .str))), some (.imm (.tuple ((ns ++ (zonesL os).take mo).map .str))), some (.imm (.tuple ((reachL (freeEdges ns os)).map .int))), none, none, none, none, none, none, none, none, none] = some (.list (([] : List Int).map .int)) := by
      have it : itSeq (nmV 6) [some (.imm (scriptT sc)), some (.imm (houseT R os)), some (.imm (.int m1)), some (.imm (.tuple ((zonesL os).map .str))), some (.imm (.tuple (ns.map .str))), some (.imm (.tuple ((ns ++ (zonesL os).take mo).map .str))), some (.imm (.tuple ((reachL (freeEdges ns os)).map .int))), none, none, none, none, none, none, none, none, none] = some ((reachL (freeEdges ns os)).map .int) := rfl
      have hcap : capEnv 1 [1, 5] [some (.imm (scriptT sc)), some (.imm (houseT R os)), some (.imm (.int m1)), some (.imm (.tuple ((zonesL os).map .str))), some (.imm (.tuple (ns.map .str))), some (.imm (.tuple ((ns ++ (zonesL os).take mo).map .str))), some (.imm (.tuple ((reachL (freeEdges ns os)).map .int))), none, none, none, none, none, none, none, none, none] = [none, some (.imm (houseT R os)), some (.imm (.tuple ((ns ++ (zonesL os).take mo).map .str)))] := rfl
      simp only [comp, it, Option.bind_some, hcap]
      rw [if_pos (by simp [big]; omega), comp_none d mok _ none fun k hk => (hmm k).mpr (Hg.reach_mono (free_mono fun x hx => List.mem_append_left _ hx) ((hsm k).mp hk))]
      rfl
    have c1 := tstB_of (op2_of (o := oNe) hc (g := mkLst []) (y := .list (([] : List Int).map .int)) (by simp [mkLst, args, big]) (oNe_intsL [] []))
    have hs : slice (nm 6) optN (opt (cst (.int 1))) [some (.imm (scriptT sc)), some (.imm (houseT R os)), some (.imm (.int m1)), some (.imm (.tuple ((zonesL os).map .str))), some (.imm (.tuple (ns.map .str))), some (.imm (.tuple ((ns ++ (zonesL os).take mo).map .str))), some (.imm (.tuple ((reachL (freeEdges ns os)).map .int))), none, none, none, none, none, none, none, none, none] = some (.tuple (([0] : List Int).map .int)) := by
      have h6 : nm 6 [some (.imm (scriptT sc)), some (.imm (houseT R os)), some (.imm (.int m1)), some (.imm (.tuple ((zonesL os).map .str))), some (.imm (.tuple (ns.map .str))), some (.imm (.tuple ((ns ++ (zonesL os).take mo).map .str))), some (.imm (.tuple ((reachL (freeEdges ns os)).map .int))), none, none, none, none, none, none, none, none, none] = some (.tuple (PyData.int 0 :: rs.map .int)) := by
        rw [hrs]
        rfl
      have hx : D.sIx (PyData.int 0 :: rs.map PyData.int).length (PyData.int 0 :: rs.map PyData.int).length (some 1) = 1 := by
        simp only [D.sIx, List.length_cons]
        omega
      simp only [slice, h6, Option.bind_some, optN, opt, cst, oSl, cutZ, hx]
      rfl
    have c2 := tstB_of (op2_of (o := oNe) hs (g := mkTup [(cst (.int 0))]) (y := .tuple (([0] : List Int).map .int)) (mkTup_of (args1 rfl) (by decide)) (oNe_ints [0] [0]))
    simp only [orT, c1, c2, Option.bind_some]
    simp
  have s8 : asgN 7 (mkLst [(cst (.int 0))]) [some (.imm (scriptT sc)), some (.imm (houseT R os)), some (.imm (.int m1)), some (.imm (.tuple ((zonesL os).map .str))), some (.imm (.tuple (ns.map .str))), some (.imm (.tuple ((ns ++ (zonesL os).take mo).map .str))), some (.imm (.tuple ((reachL (freeEdges ns os)).map .int))), none, none, none, none, none, none, none, none, none] =
      some (.nx (envA (scriptT sc) (houseT R os) (.int m1) (.tuple ((zonesL os).map .str)) (.tuple (ns.map .str)) (.tuple ((ns ++ (zonesL os).take mo).map .str)) (.tuple ((reachL (freeEdges ns os)).map .int)) [0] none none none none none none none none)) := by
    simp [asgN, mkLst, args, cst, big, envA]
  let p : Int → Bool := fun x => decide (Hg.Reach (os.map edge) x)
  have hp : ∀ x, p x = true ↔ Hg.Reach (os.map edge) x := fun x => decide_eq_true_iff
  obtain ⟨a8, a9, a10, a11, a12, a13, a14, a15, hloop⟩ := r_loop (scriptT sc) (.int m1) (.tuple ((zonesL os).map .str)) (.tuple ((ns ++ (zonesL os).take mo).map .str)) R os ns d nok p hp ((List.range R.toNat).map fun (k : Nat) => 1 + (k : Int)) [0] none none none none none none none none (by simp; omega)
  have s9 : for_ (itRng2 (cst (.int 1)) (op2 oAdd (op2 oIx (nm 1) (cst (.int 0))) (cst (.int 1)))) (gNm 8) bR (envA (scriptT sc) (houseT R os) (.int m1) (.tuple ((zonesL os).map .str)) (.tuple (ns.map .str)) (.tuple ((ns ++ (zonesL os).take mo).map .str)) (.tuple ((reachL (freeEdges ns os)).map .int)) [0] none none none none none none none none) =
      some (.nx (envA (scriptT sc) (houseT R os) (.int m1) (.tuple ((zonesL os).map .str)) (.tuple (ns.map .str)) (.tuple ((ns ++ (zonesL os).take mo).map .str)) (.tuple ((reachL (freeEdges ns os)).map .int)) (reachL (os.map edge)) a8 a9 a10 a11 a12 a13 a14 a15)) := by
    have hit : itRng2 (cst (.int 1)) (op2 oAdd (op2 oIx (nm 1) (cst (.int 0))) (cst (.int 1))) (envA (scriptT sc) (houseT R os) (.int m1) (.tuple ((zonesL os).map .str)) (.tuple (ns.map .str)) (.tuple ((ns ++ (zonesL os).take mo).map .str)) (.tuple ((reachL (freeEdges ns os)).map .int)) [0] none none none none none none none none) = some (((List.range R.toNat).map fun (k : Nat) => 1 + (k : Int)).map .int) := by
      have ha : op2 oAdd (op2 oIx (nm 1) (cst (.int 0))) (cst (.int 1)) (envA (scriptT sc) (houseT R os) (.int m1) (.tuple ((zonesL os).map .str)) (.tuple (ns.map .str)) (.tuple ((ns ++ (zonesL os).take mo).map .str)) (.tuple ((reachL (freeEdges ns os)).map .int)) [0] none none none none none none none none) = some (.int (R + 1)) := op2_of (op2_of rfl rfl rfl) rfl rfl
      have hs : small62 (R + 1) = true := by
        unfold small62
        simp
        omega
      have hs1 : small62 1 = true := by decide
      have hr : (R + 1 - 1).toNat = R.toNat := by omega
      simp only [itRng2, ha, cst, Option.bind_some, hs, hs1, Bool.and_self, if_true, rng, hr, List.map_map, Function.comp_def]
    have hdue := due_eq d p hp
    rw [← List.singleton_append] at hdue
    simp only [for_, hit, Option.bind_some]
    rw [hloop, ← hdue]
  have fin : rtn (andV (op2 oEq (opN d_unseen [(nmV 1), (nmV 3)]) (opN oTuple [(nm 7)])) (op2 oEq (opN oList [(nm 6)]) (opN oSortedSetA [(nm 6)]))) (envA (scriptT sc) (houseT R os) (.int m1) (.tuple ((zonesL os).map .str)) (.tuple (ns.map .str)) (.tuple ((ns ++ (zonesL os).take mo).map .str)) (.tuple ((reachL (freeEdges ns os)).map .int)) (reachL (os.map edge)) a8 a9 a10 a11 a12 a13 a14 a15) = some (.rt (.bool true)) := by
    have h1 : opN d_unseen [(nmV 1), (nmV 3)] (envA (scriptT sc) (houseT R os) (.int m1) (.tuple ((zonesL os).map .str)) (.tuple (ns.map .str)) (.tuple ((ns ++ (zonesL os).take mo).map .str)) (.tuple ((reachL (freeEdges ns os)).map .int)) (reachL (os.map edge)) a8 a9 a10 a11 a12 a13 a14 a15) = some (.tuple ((reachL (os.map edge)).map .int)) := by
      have := unseen_val d zok
      rw [free_all] at this
      exact opN_of (args2 rfl rfl) this
    have h2 := op2_of (o := oEq) h1 (opN_of (args1 (f := nm 7) rfl) (show oTuple [.list ((reachL (os.map edge)).map .int)] = some (.tuple ((reachL (os.map edge)).map .int)) from rfl)) (oEq_ints _ _)
    have h3 : oSortedSetA [.tuple ((reachL (freeEdges ns os)).map .int)] = some (.list ((reachL (freeEdges ns os)).map .int)) := by
      have hsort : sortI (dedup (reachL (freeEdges ns os))) = reachL (freeEdges ns os) := by
        have hpm := sortI_perm (dedup (reachL (freeEdges ns os)))
        have nd : (sortI (dedup (reachL (freeEdges ns os)))).Nodup := hpm.nodup_iff.mpr (dedup_nodup _)
        refine lt_unique (((sortI_pw _).and nd).imp fun h => by have h1 := h.1; have h2 := h.2; omega) hspw fun x => ?_
        rw [hpm.mem_iff, dedup_mem]
      simp only [oSortedSetA, oSortedSetL, List.length_map]
      rw [if_pos (by omega), intsOf_ints]
      simp only [hsort]
    have h4 := op2_of (o := oEq) (ε := envA (scriptT sc) (houseT R os) (.int m1) (.tuple ((zonesL os).map .str)) (.tuple (ns.map .str)) (.tuple ((ns ++ (zonesL os).take mo).map .str)) (.tuple ((reachL (freeEdges ns os)).map .int)) (reachL (os.map edge)) a8 a9 a10 a11 a12 a13 a14 a15) (opN_of (args1 (f := nm 6) rfl) (show oList [.tuple ((reachL (freeEdges ns os)).map .int)] = some (.list ((reachL (freeEdges ns os)).map .int)) from rfl)) (opN_of (args1 (f := nm 6) rfl) h3) (oEq_intsL _ _)
    simp only [rtn, andV, h2, Option.bind_some, decide_true, h4, Option.map_some]
  have e9 : d_law [scriptT sc] = (b_law (env0 sc)).bind fun o => match o with | .rt t => some t | .nx _ => some .none | _ => none := rfl
  rw [e9]
  have run : b_law (env0 sc) = some (.rt (.bool true)) := by
    unfold bR bY bI at s9
    unfold b_law
    rw [seq_nx s1, seq_nx s2, seq_nx s3, seq_nx s4, seq_nx s5, seq_nx s6, seq_nx (iff_skip t7), seq_nx s8, seq_nx s9, fin]
  rw [run]
  rfl
end K23
end
section
set_option linter.all false
set_option Elab.async false
set_option maxRecDepth 100000
set_option autoImplicit false
set_option maxHeartbeats 0
namespace K23
open PySem PySem.Spec PyProof.Rows L2 D Ho
theorem all_mk {l : PySem.W.OpenLaw} {w : World} {K : PySem.W.Frag} {h : Heap} {mg : Str → Option Value} {fa f1 f2 f3 f4 f5 f6 f7 f8 f9 f10 : Addr} {od1 od2 od3 od4 od5 od6 od7 od8 od9 od10 an1 an2 an3 an4 an5 an6 an7 an8 an9 an10 : Option Addr} {sl1 sl2 sl3 sl4 sl5 sl6 sl7 sl8 sl9 sl10 : Array (Option Value)} {oc1 oc2 oc3 oc4 oc5 oc6 oc7 oc8 oc9 oc10 kV1 kV2 kV3 kV4 kV5 kV6 kV7 kV8 kV9 kV10 dc1 dc2 dc3 dc4 dc5 dc6 dc7 dc8 dc9 dc10 pm1 pm2 pm3 pm4 pm5 pm6 pm7 pm8 pm9 pm10 cd1 cd2 cd3 cd4 cd5 cd6 cd7 cd8 cd9 cd10 ct1 ct2 ct3 ct4 ct5 ct6 ct7 ct8 ct9 ct10 : Value} {tg1 : Tok} (X : K.In h) (G : h.Ns mainGlobals mg) (hfa : mg "law" = some (.ref fa))
    (a1 : PySem.W.nsIn K mainGlobals "zones_of" = some (some (.ref f1))) (l1 : K.lookup f1 = some ⟨oc1, od1, .func (PySem.W.fnOf "zones_of" "zones_of" (defArgs s_zones_of) (defBody s_zones_of) (defScope s_zones_of) .none kV1 dc1 pm1 an1 cd1 ct1), sl1⟩) (c1 : PySem.W.codeIn K cd1 "zones_of" = true) (k1 : PySem.W.keepIn K (.ref f1) = true)
    (a2 : PySem.W.nsIn K mainGlobals "beyond" = some (some (.ref f2))) (l2 : K.lookup f2 = some ⟨oc2, od2, .func (PySem.W.fnOf "beyond" "beyond" (defArgs s_beyond) (defBody s_beyond) (defScope s_beyond) .none kV2 dc2 pm2 an2 cd2 ct2), sl2⟩) (c2 : PySem.W.codeIn K cd2 "beyond" = true) (k2 : PySem.W.keepIn K (.ref f2) = true)
    (a3 : PySem.W.nsIn K mainGlobals "unseen" = some (some (.ref f3))) (l3 : K.lookup f3 = some ⟨oc3, od3, .func (PySem.W.fnOf "unseen" "unseen" (defArgs s_unseen) (defBody s_unseen) (defScope s_unseen) .none kV3 dc3 pm3 an3 cd3 ct3), sl3⟩) (c3 : PySem.W.codeIn K cd3 "unseen" = true) (k3 : PySem.W.keepIn K (.ref f3) = true)
    (a4 : PySem.W.nsIn K mainGlobals "ways_on" = some (some (.ref f4))) (l4 : K.lookup f4 = some ⟨oc4, od4, .func (PySem.W.fnOf "ways_on" "ways_on" (defArgs s_ways_on) (defBody s_ways_on) (defScope s_ways_on) .none kV4 dc4 pm4 an4 cd4 ct4), sl4⟩) (c4 : PySem.W.codeIn K cd4 "ways_on" = true) (k4 : PySem.W.keepIn K (.ref f4) = true)
    (a5 : PySem.W.nsIn K mainGlobals "ways" = some (some (.ref f5))) (l5 : K.lookup f5 = some ⟨oc5, od5, .func (PySem.W.fnOf "ways" "ways" (defArgs s_ways) (defBody s_ways) (defScope s_ways) .none kV5 dc5 pm5 an5 cd5 ct5), sl5⟩) (c5 : PySem.W.codeIn K cd5 "ways" = true) (k5 : PySem.W.keepIn K (.ref f5) = true)
    (a6 : PySem.W.nsIn K mainGlobals "_law_cell_at" = some (some (.ref f6))) (l6 : K.lookup f6 = some ⟨oc6, od6, .func (PySem.W.fnOf "_law_cell_at" "_law_cell_at" (defArgs s_l_cell_at) (defBody s_l_cell_at) (defScope s_l_cell_at) .none kV6 dc6 pm6 an6 cd6 ct6), sl6⟩) (c6 : PySem.W.codeIn K cd6 "_law_cell_at" = true) (k6 : PySem.W.keepIn K (.ref f6) = true)
    (a7 : PySem.W.nsIn K mainGlobals "_law_mixed" = some (some (.ref f7))) (l7 : K.lookup f7 = some ⟨oc7, od7, .func (PySem.W.fnOf "_law_mixed" "_law_mixed" (defArgs s_l_mixed) (defBody s_l_mixed) (defScope s_l_mixed) .none kV7 dc7 pm7 an7 cd7 ct7), sl7⟩) (c7 : PySem.W.codeIn K cd7 "_law_mixed" = true) (k7 : PySem.W.keepIn K (.ref f7) = true)
    (a8 : PySem.W.nsIn K mainGlobals "_law_drawn" = some (some (.ref f8))) (l8 : K.lookup f8 = some ⟨oc8, od8, .func (PySem.W.fnOf "_law_drawn" "_law_drawn" (defArgs s_l_drawn) (defBody s_l_drawn) (defScope s_l_drawn) .none kV8 dc8 pm8 an8 cd8 ct8), sl8⟩) (c8 : PySem.W.codeIn K cd8 "_law_drawn" = true) (k8 : PySem.W.keepIn K (.ref f8) = true)
    (a9 : PySem.W.nsIn K mainGlobals "_law_house" = some (some (.ref f9))) (l9 : K.lookup f9 = some ⟨oc9, od9, .func (PySem.W.fnOf "_law_house" "_law_house" (defArgs s_l_house) (defBody s_l_house) (defScope s_l_house) .none kV9 dc9 pm9 an9 cd9 ct9), sl9⟩) (c9 : PySem.W.codeIn K cd9 "_law_house" = true) (k9 : PySem.W.keepIn K (.ref f9) = true)
    (a10 : PySem.W.nsIn K mainGlobals "law" = some (some (.ref f10))) (l10 : K.lookup f10 = some ⟨oc10, od10, .func (PySem.W.fnOf "law" "law" (defArgs s_law) (defBody s_law) (defScope s_law) .none kV10 dc10 pm10 an10 cd10 ct10), sl10⟩) (c10 : PySem.W.codeIn K cd10 "law" = true) (k10 : PySem.W.keepIn K (.ref f10) = true)
    (z1 : PySem.W.nsIn K mainGlobals "enumerate" = some none)
    (z2 : PySem.W.nsIn K mainGlobals "len" = some none)
    (z3 : PySem.W.nsIn K mainGlobals "list" = some none)
    (z4 : PySem.W.nsIn K mainGlobals "max" = some none)
    (z5 : PySem.W.nsIn K mainGlobals "min" = some none)
    (z6 : PySem.W.nsIn K mainGlobals "range" = some none)
    (z7 : PySem.W.nsIn K mainGlobals "set" = some none)
    (z8 : PySem.W.nsIn K mainGlobals "sorted" = some none)
    (z9 : PySem.W.nsIn K mainGlobals "sum" = some none)
    (z10 : PySem.W.nsIn K mainGlobals "tuple" = some none)
    (g1 : PySem.W.nsIn K mainGlobals "OUTSIDE" = some (some (.int 0 tg1))) :
    ∃ fd : FuncData, (∀ (s : Shared) (v : Value), BindsTo s fd ⟨[v], []⟩ [("_law_script", v)]) ∧ ∀ base : Heap, K.In base → base.Ns mainGlobals mg → FnOk l.prog w K mg base CX0 23 fa fd ["_law_script"] (spT K 1 d_law) := by
  have e := hfa.symm.trans (PySem.W.mg_of X G a10)
  cases e
  refine ⟨PySem.W.fnOf "law" "law" (defArgs s_law) (defBody s_law) (defScope s_law) .none kV10 dc10 pm10 an10 cd10 ct10, fun s v => .of_eq rfl, fun base _ _ => ?_⟩
  have z_enumerate := PySem.W.mg_none_of X G z1
  have z_len := PySem.W.mg_none_of X G z2
  have z_list := PySem.W.mg_none_of X G z3
  have z_max := PySem.W.mg_none_of X G z4
  have z_min := PySem.W.mg_none_of X G z5
  have z_range := PySem.W.mg_none_of X G z6
  have z_set := PySem.W.mg_none_of X G z7
  have z_sorted := PySem.W.mg_none_of X G z8
  have z_sum := PySem.W.mg_none_of X G z9
  have z_tuple := PySem.W.mg_none_of X G z10
  have g_OUTSIDE := PySem.W.mg_of X G g1
  have F1 := fun_mk (st := s_zones_of) l1 c1 k1
  have F2 := fun_mk (st := s_beyond) l2 c2 k2
  have F3 := fun_mk (st := s_unseen) l3 c3 k3
  have F4 := fun_mk (st := s_ways_on) l4 c4 k4
  have F5 := fun_mk (st := s_ways) l5 c5 k5
  have F6 := fun_mk (st := s_l_cell_at) l6 c6 k6
  have F7 := fun_mk (st := s_l_mixed) l7 c7 k7
  have F8 := fun_mk (st := s_l_drawn) l8 c8 k8
  have F9 := fun_mk (st := s_l_house) l9 c9 k9
  have F10 := fun_mk (st := s_law) l10 c10 k10
  have C_zones_of := c_zones_of (P := l.prog) (w := w) (base := base) (k := 0) F1 (PySem.W.mg_of X G a1) z_tuple z_sorted z_set
  have C_beyond := c_beyond (P := l.prog) (w := w) (base := base) (k := 0) F2 (PySem.W.mg_of X G a2)
  have C_unseen := c_unseen (P := l.prog) (w := w) (base := base) (k := 1) F3 (PySem.W.mg_of X G a3) z_tuple z_sorted (C_beyond.mono (by decide)) g_OUTSIDE
  have C_ways_on := c_ways_on (P := l.prog) (w := w) (base := base) (k := 1) F4 (PySem.W.mg_of X G a4) z_enumerate (C_beyond.mono (by decide)) 20
  have C_ways := c_ways (P := l.prog) (w := w) (base := base) (k := 21) F5 (PySem.W.mg_of X G a5) z_tuple (C_ways_on.mono (by decide)) g_OUTSIDE
  have C_l_cell_at := c_l_cell_at (P := l.prog) (w := w) (base := base) (k := 0) F6 (PySem.W.mg_of X G a6) z_len
  have C_l_mixed := c_l_mixed (P := l.prog) (w := w) (base := base) (k := 1) F7 (PySem.W.mg_of X G a7) (C_l_cell_at.mono (by decide))
  have C_l_drawn := c_l_drawn (P := l.prog) (w := w) (base := base) (k := 0) F8 (PySem.W.mg_of X G a8)
  have C_l_house := c_l_house (P := l.prog) (w := w) (base := base) (k := 1) F9 (PySem.W.mg_of X G a9) z_range (C_l_drawn.mono (by decide)) z_min z_max
  exact f_law (k := 22) F10 (C_l_house.mono (by decide)) (C_l_mixed.mono (by decide)) (C_zones_of.mono (by decide)) z_tuple (C_unseen.mono (by decide)) z_range (C_ways.mono (by decide)) z_list z_sorted z_enumerate z_set z_sum
theorem walk {l : PySem.W.OpenLaw} {q : Program} {loose : List Str} {XP : (Str → Option Value) → Heap → Prop} {YP : World → Heap → Prop} {d : DefRec} {K : Params → PySem.W.Frag} (hn : l.most = some 63) (hdf : d.params.defaults = [])
    (hL : ∀ w : World, noL (K w.params) = true) (hY : ∀ (w : World) (h : Heap), YP w h → (K w.params).In h)
    (F : ∀ (w : World) (mg : Str → Option Value) (fa : Addr) (h : Heap), (K w.params).In h → h.Ns mainGlobals mg → mg d.name = some (.ref fa) →
      ∃ fd : FuncData, (∀ (s : Shared) (u : Value), BindsTo s fd ⟨[u], []⟩ [("_law_script", u)]) ∧ ∀ base : Heap, (K w.params).In base → base.Ns mainGlobals mg → FnOk l.prog w (K w.params) mg base CX0 23 fa fd ["_law_script"] (spT (K w.params) 1 d_law)) :
    PySem.W.WalkO q loose XP YP l.row.toRowW d [] (fun f vs => PySem.call f vs) :=
  L2.walk_of (n := 63) (k := 23) (x := "_law_script") (CX := fun _ => CX0) (sp := fun w => spT (K w.params) 1 d_law) hn (by decide) hdf ⟨rfl, by decide, by decide⟩ hY F (fun w _ _ ns _ _ hS => sp_start (hL w) (law_true ns) hS) fun _ _ _ _ _ z => z
end K23
open PySem PySem.W PyProof.Rows
set_option maxRecDepth 100000 in
set_option maxHeartbeats 0 in
theorem PySem.Challenge.cw_doorwatch_k23_whole_unseen_holds : PySem.Challenge.rw_doorwatch_k23_whole_unseen.Holds := by
  w_on; o_law; k_head; (case hw => w_witness2)
  k_fill
  refine K23.walk (l := PySem.Challenge.rw_doorwatch_k23_whole_unseen) rfl rfl ?L (fun w h Y => PySem.W.kIn_of Y) ?F
  case L =>
    intro w
    first | rfl | (with_unfolding_all rfl) | kernel_rfl
  case F =>
    intro w mg fa h KX G hmg
    refine' K23.all_mk KX G hmg ?a1 ?l1 ?c1 ?k1 ?a2 ?l2 ?c2 ?k2 ?a3 ?l3 ?c3 ?k3 ?a4 ?l4 ?c4 ?k4 ?a5 ?l5 ?c5 ?k5 ?a6 ?l6 ?c6 ?k6 ?a7 ?l7 ?c7 ?k7 ?a8 ?l8 ?c8 ?k8 ?a9 ?l9 ?c9 ?k9 ?a10 ?l10 ?c10 ?k10 ?z1 ?z2 ?z3 ?z4 ?z5 ?z6 ?z7 ?z8 ?z9 ?z10 ?g1
    (case a1 => k_is)
    (case l1 => k_is)
    (case c1 => k_is)
    (case k1 => k_is)
    (case a2 => k_is)
    (case l2 => k_is)
    (case c2 => k_is)
    (case k2 => k_is)
    (case a3 => k_is)
    (case l3 => k_is)
    (case c3 => k_is)
    (case k3 => k_is)
    (case a4 => k_is)
    (case l4 => k_is)
    (case c4 => k_is)
    (case k4 => k_is)
    (case a5 => k_is)
    (case l5 => k_is)
    (case c5 => k_is)
    (case k5 => k_is)
    (case a6 => k_is)
    (case l6 => k_is)
    (case c6 => k_is)
    (case k6 => k_is)
    (case a7 => k_is)
    (case l7 => k_is)
    (case c7 => k_is)
    (case k7 => k_is)
    (case a8 => k_is)
    (case l8 => k_is)
    (case c8 => k_is)
    (case k8 => k_is)
    (case a9 => k_is)
    (case l9 => k_is)
    (case c9 => k_is)
    (case k9 => k_is)
    (case a10 => k_is)
    (case l10 => k_is)
    (case c10 => k_is)
    (case k10 => k_is)
    (case z1 => k_is)
    (case z2 => k_is)
    (case z3 => k_is)
    (case z4 => k_is)
    (case z5 => k_is)
    (case z6 => k_is)
    (case z7 => k_is)
    (case z8 => k_is)
    (case z9 => k_is)
    (case z10 => k_is)
    (case g1 => k_is)
end
