import PyProof.Rows.All
import Wide.All
import OpenK.AllK
import Wide.FinOn
import Lean
import PyProof.EqAt
import PyProof.EqKinds
import PyProof.TupleCall
import PyProof.NeKinds
import KE.KDictSum
import PyProof.Rows.SetFrom
import PySem.Challenge.RW_rankgarth_k11_whole_reached
set_option Elab.async false
set_option linter.all false
set_option maxRecDepth 100000
/-! THE HAND LAYER, for ints, bools, texts, own classes, LISTS and tuples (index, slices, in, append, pop ..), calls, loops. Paste it whole ahead of your own text; what your proof does not reach may be deleted. -/
namespace L2
open PySem PySem.Spec PyProof.Rows

/-- a key: an int or a str -/
abbrev Key := Sum Int Str
def keyIs : Key → Value → Bool
  | .inl k, v => Value.isInt k v
  | .inr x, v => Value.isStrOf x v
def keyH (w : World) : Key → Int
  | .inl k => hashInt k
  | .inr x => hashStr w x
theorem keyIs_shape : ∀ {k : Key} {v : Value}, keyIs k v = true → (∃ i t, k = Sum.inl i ∧ v = Value.int i t) ∨ (∃ x t, k = Sum.inr x ∧ v = Value.str x t)
  | .inl i, v, h => by
    obtain ⟨t, e⟩ := Value.isInt_shape (k := i) (v := v) h
    exact .inl ⟨i, t, rfl, e⟩
  | .inr x, v, h => by
    obtain ⟨t, e⟩ := Value.isStrOf_shape (x := x) (v := v) h
    exact .inr ⟨x, t, rfl, e⟩
theorem key_ll (a b : Int) : decide ((Sum.inl a : Key) = Sum.inl b) = (a == b) := by
  by_cases e : a = b
  · subst e; simp
  · have h : ¬ (Sum.inl a : Key) = Sum.inl b := fun q => e (Sum.inl.inj q)
    rw [decide_eq_false h]
    exact (beq_eq_false_iff_ne.mpr e).symm
theorem key_rr (a b : Str) : decide ((Sum.inr a : Key) = Sum.inr b) = decide (a = b) := by
  by_cases e : a = b
  · subst e; simp
  · have h : ¬ (Sum.inr a : Key) = Sum.inr b := fun q => e (Sum.inr.inj q)
    rw [decide_eq_false h, decide_eq_false e]
theorem key_lr (a : Int) (b : Str) : decide ((Sum.inl a : Key) = Sum.inr b) = false := decide_eq_false (fun q => nomatch q)
theorem key_rl (a : Str) (b : Int) : decide ((Sum.inr a : Key) = Sum.inl b) = false := decide_eq_false (fun q => nomatch q)

def mixKind (prog : Program) (w : World) : PySem.KeyKind prog w Key where
  is := keyIs
  hash := keyH w
  inj := fun v a b ha hb => by
    rcases keyIs_shape ha with ⟨i, t, rfl, rfl⟩ | ⟨x, t, rfl, rfl⟩
    · rcases keyIs_shape hb with ⟨j, u, rfl, e⟩ | ⟨y, u, rfl, e⟩
      · injection e with e1 _; rw [e1]
      · exact nomatch e
    · rcases keyIs_shape hb with ⟨j, u, rfl, e⟩ | ⟨y, u, rfl, e⟩
      · exact nomatch e
      · injection e with e1 _; rw [e1]
  byValue := fun k v h => by
    rcases keyIs_shape h with ⟨i, t, rfl, rfl⟩ | ⟨x, t, rfl, rfl⟩ <;> rfl
  pyHash := fun hv h => by
    rcases keyIs_shape hv with ⟨i, t, rfl, rfl⟩ | ⟨x, t, rfl, rfl⟩
    · exact wpAny_pyHash_int h
    · exact wpAny_pyHash_str h
  eqBool := fun hu hv h => by
    rcases keyIs_shape hu with ⟨i, t, rfl, rfl⟩ | ⟨x, t, rfl, rfl⟩
    · rcases keyIs_shape hv with ⟨j, u, rfl, rfl⟩ | ⟨y, u, rfl, rfl⟩
      · rw [key_ll] at h; exact wpAny_eqBool_int h
      · rw [key_lr] at h; exact SeqAt.EqAt.int_str i t y u _ _ _ _ h
    · rcases keyIs_shape hv with ⟨j, u, rfl, rfl⟩ | ⟨y, u, rfl, rfl⟩
      · rw [key_rl] at h; exact SeqAt.EqAt.str_int x t j u _ _ _ _ h
      · rw [key_rr] at h; exact wpAny_eqBool_str h
  «strs» := fun k x t v h => by
    rcases keyIs_shape h with ⟨i, u, rfl, e⟩ | ⟨y, u, rfl, e⟩
    · exact nomatch e
    · injection e with e1 _
      subst e1
      cases v <;> rfl

end L2

namespace L2
open PySem PySem.Spec PyProof.Rows

/-- a value, without the heap -/
inductive V where
  | non | bl (b : Bool) | int (i : Int) | str (x : Str) | byt (b : Array UInt8) | flt (b : UInt64) | ref (a : Addr) | ty (n : String)
  deriving DecidableEq

def RelV : V → Value → Prop
  | .non, u => u = Value.none
  | .bl b, u => u = Value.bool b
  | .int i, u => ∃ t, u = Value.int i t
  | .str x, u => ∃ t, u = Value.str x t
  | .byt b, u => ∃ t, u = Value.bytes b t
  | .flt b, u => ∃ t, u = Value.float b t
  | .ref a, u => u = Value.ref a
  | .ty n, u => u = Value.type n

abbrev Vals : List V → List Value → Prop := Paired RelV
theorem Vals.length {xs : List V} {us : List Value} (r : Vals xs us) : xs.length = us.length := Paired.length r
theorem Vals.get : ∀ {xs : List V} {us : List Value} {i : Nat} {x : V}, Vals xs us → xs[i]? = some x → ∃ u, us[i]? = some u ∧ RelV x u
  | _, _, _, _, .nil, e => by simp at e
  | _, _, 0, _, .cons r _, e => by simp at e; subst e; exact ⟨_, rfl, r⟩
  | _, _, i + 1, x, .cons _ t, e => by
    obtain ⟨u, h1, h2⟩ := Vals.get (i := i) (x := x) t (by simpa using e)
    exact ⟨u, by simpa using h1, h2⟩
theorem Vals.set {x : V} {u : Value} (r : RelV x u) : ∀ {xs : List V} {us : List Value} (i : Nat), Vals xs us → Vals (xs.set i x) (us.set i u)
  | _, _, _, .nil => .nil
  | _, _, 0, .cons _ t => .cons r t
  | _, _, i + 1, .cons q t => .cons q (Vals.set r i t)
theorem Vals.append : ∀ {xs ys : List V} {us ws : List Value}, Vals xs us → Vals ys ws → Vals (xs ++ ys) (us ++ ws)
  | _, _, _, _, .nil, s => s
  | _, _, _, _, .cons r t, s => .cons r (Vals.append t s)
theorem Vals.take : ∀ {xs : List V} {us : List Value} (n : Nat), Vals xs us → Vals (xs.take n) (us.take n)
  | _, _, 0, _ => .nil
  | _, _, _ + 1, .nil => .nil
  | _, _, n + 1, .cons r t => .cons r (Vals.take n t)
theorem Vals.drop : ∀ {xs : List V} {us : List Value} (n : Nat), Vals xs us → Vals (xs.drop n) (us.drop n)
  | _, _, 0, r => r
  | _, _, _ + 1, .nil => .nil
  | _, _, n + 1, .cons _ t => Vals.drop n t

def RelO : Option V → Option Value → Prop
  | some v, some u => RelV v u
  | none, none => True
  | _, _ => False
def KV {κ : Type} : List (κ × V) → List (κ × Value) → Prop := Paired fun (p : κ × V) (q : κ × Value) => p.1 = q.1 ∧ RelV p.2 q.2

/-- a key of a dict (00_mix): an int or a text -/
def kV : Key → V
  | .inl i => .int i
  | .inr x => .str x

/-- what stands at a tracked address -/
inductive HO where
  /-- a list -/
  | lst (xs : List V)
  /-- a tuple (never changes) -/
  | tup (xs : List V)
  /-- a dict whose keys are ints and texts; one whose keys are tuples of ints and texts (the empty one is both) -/
  | dK (kvs : List (Key × V)) | dT (kvs : List (List Key × V))
  /-- a set of ints: its members, its size -/
  | set (S : Int → Bool) (n : Nat)
  /-- an instance of the class at C, its dict at dx, its attributes -/
  | ins (C dx : Addr) (fs : List (Str × V))
  /-- the dict of the instance at x -/
  | own (x : Addr)
  /-- the dict of an exception -/
  | xd (fs : List (Str × V))
  /-- a bound method, f of x -/
  | met (f x : Addr)
  /-- a range object lo, lo + 1, .. below hi -/
  | rng (lo hi : Int)
  /-- a thing that is known to the object (the script; a dict while a loop walks it): read, never written while it is so -/
  | frz (o : Obj) (u : HO)
  /-- a code object's table -/
  | tbl (ps : Array Value)
  /-- any other thing, by what is true of its one object (a def of one's own: SetO a S n := HO.ext fun h => ..) -/
  | ext (φ : Heap → Prop)

abbrev Hp := Addr → Option HO
def upd (H : Hp) (a : Addr) (o : HO) : Hp := fun b => if b = a then some o else H b
theorem upd_same {H : Hp} {a : Addr} {o : HO} : upd H a o a = some o := by unfold upd; rw [if_pos rfl]
theorem upd_ne {H : Hp} {a b : Addr} {o : HO} (h : b ≠ a) : upd H a o b = H b := by unfold upd; rw [if_neg h]
theorem ne_of_none {H : Hp} {a b : Addr} {o : HO} (h : H a = some o) (h' : H b = none) : a ≠ b := by
  intro e; subst e; rw [h] at h'; cases h'

section
variable (P : Program) (w : World)
def ObjOk (H : Hp) (h : Heap) (a : Addr) : HO → Prop
  | .lst xs => xs.length ≤ sizeLine ∧ ∃ (its : List Value) (n : Nat), Vals xs its ∧ h.get? a = some { cls := .type "list", data := .seq its.toArray n }
  | .tup xs => xs.length ≤ sizeLine ∧ ∃ its : List Value, Vals xs its ∧ IsTup h a its.toArray
  | .dK kvs => kvs.length ≤ sizeLine ∧ (a == sysModules) = false ∧ ∃ vs, KV kvs vs ∧ h.DictOf (mixKind P w) a vs
  | .dT kvs => kvs.length ≤ sizeLine ∧ (a == sysModules) = false ∧ ∃ xs : List (List Key × Addr × Value),
      Paired (fun (p : List Key × V) (q : List Key × Addr × Value) => p.1 = q.1 ∧ H q.2.1 = some (.tup (p.1.map kV)) ∧ RelV p.2 q.2.2) kvs xs ∧
      ∃ o es ep, h.get? a = some o ∧ o.ExactDict ∧ o.data = .dict es ep ∧ es.toList = xs.map (entryOfKey (tupleKind (mixKind P w))) ∧ (xs.map (·.1)).Nodup
  | .set S n => h.SetOf (intKind P w) a S n
  | .ins C dx fs => H dx = some (.own a) ∧ fs.length ≤ 1000 ∧ dx ≠ a ∧ h.get? a = some (PySem.W.instObj C dx) ∧
      ∃ mA, h.Ns1 dx mA ∧ (∀ f, RelO (fs.lookup f) (mA f)) ∧ PySem.Within mA (fs.map (·.1))
  | .own _ => ∃ o, h.get? a = some o
  | .xd fs => ∃ mA, h.Ns1 a mA ∧ ∀ f, RelO (fs.lookup f) (mA f)
  | .rng lo hi => ∃ t u v, h.get? a = some { cls := .type "range", data := .fields #[.int lo t, .int hi u, .int 1 v] }
  | .frz o u => h.get? a = some o ∧ ObjOk H h a u
  | .tbl ps => h.get? a = some { cls := .none, data := .fields ps }
  | .met f x => h.get? a = some (PySem.W.methodObj (.ref f) (.ref x))
  | .ext φ => φ h ∧ (∃ o, h.get? a = some o) ∧ ∀ h1 h2 : Heap, φ h1 → (∀ o, h1.get? a = some o → h2.get? a = some o) → φ h2
/-- the abstract heap is held -/
def HOk (H : Hp) (h : Heap) : Prop := ∀ a o, H a = some o → ObjOk P w H h a o
end

section
variable {P : Program} {w : World} {H H' : Hp} {h h' : Heap} {a : Addr} {o : HO}
theorem ObjOk.lt (x : ObjOk P w H h a o) : a < h.objs.size := by
  cases o with
  | lst xs => obtain ⟨_, _, _, _, e⟩ := x; exact Heap.lt_size e
  | tup xs => obtain ⟨_, _, _, p⟩ := x; exact p.lt
  | dK kvs => obtain ⟨_, _, _, _, o, _, _, e, _⟩ := x; exact Heap.lt_size e
  | dT kvs => obtain ⟨_, _, _, _, o, _, _, e, _⟩ := x; exact Heap.lt_size e
  | set S n => obtain ⟨o, _, _, _, e, _⟩ := x; exact Heap.lt_size e
  | ins C dx fs => obtain ⟨_, _, _, e, _⟩ := x; exact Heap.lt_size e
  | own y => obtain ⟨_, e⟩ := x; exact Heap.lt_size e
  | xd fs => obtain ⟨_, ⟨_, _, _, e, _⟩, _⟩ := x; exact Heap.lt_size e
  | rng lo hi => obtain ⟨_, _, _, e⟩ := x; exact Heap.lt_size e
  | frz ob u => obtain ⟨e, _⟩ := x; exact Heap.lt_size e
  | tbl ps => exact Heap.lt_size (show h.get? a = some _ from x)
  | met f y => exact Heap.lt_size (show h.get? a = some _ from x)
  | ext φ => obtain ⟨_, ⟨_, e⟩, _⟩ := x; exact Heap.lt_size e
theorem Paired.mapP {α β : Type} {F G : α → β → Prop} : ∀ {l₁ : List α} {l₂ : List β}, Paired F l₁ l₂ → (∀ a b, F a b → G a b) → Paired G l₁ l₂
  | _, _, .nil, _ => .nil
  | _, _, .cons r t, f => .cons (f _ _ r) (Paired.mapP t f)
/-- what an object's description leans on: its own object, its own dict, the tuples -/
theorem ObjOk.stay (x : ObjOk P w H h a o) (k : ∀ b u, (b = a ∨ H b = some (.own a)) → h.get? b = some u → h'.get? b = some u)
    (ho : ∀ b, H b = some (.own a) → H' b = some (.own a)) (ht : ∀ b xs, H b = some (.tup xs) → H' b = some (.tup xs)) : ObjOk P w H' h' a o := by
  induction o with
  | lst xs => obtain ⟨z, its, n, r, e⟩ := x; exact ⟨z, its, n, r, k _ _ (.inl rfl) e⟩
  | tup xs => obtain ⟨z, its, r, ob, e, c⟩ := x; exact ⟨z, its, r, ob, k _ _ (.inl rfl) e, c⟩
  | dK kvs => obtain ⟨z, y, vs, r, ob, es, ep, e, c⟩ := x; exact ⟨z, y, vs, r, ob, es, ep, k _ _ (.inl rfl) e, c⟩
  | dT kvs =>
    obtain ⟨z, y, xs, r, ob, es, ep, e, c⟩ := x
    exact ⟨z, y, xs, Paired.mapP r fun p q z => ⟨z.1, ht _ _ z.2.1, z.2.2⟩, ob, es, ep, k _ _ (.inl rfl) e, c⟩
  | set S n => obtain ⟨ob, es, ep, t, e, c⟩ := x; exact ⟨ob, es, ep, t, k _ _ (.inl rfl) e, c⟩
  | ins C dx fs =>
    obtain ⟨d, z, ne, e, mA, ⟨od, es, ep, e2, c⟩, r⟩ := x
    exact ⟨ho _ d, z, ne, k _ _ (.inl rfl) e, mA, ⟨od, es, ep, k _ _ (.inr d) e2, c⟩, r⟩
  | own y => obtain ⟨ob, e⟩ := x; exact ⟨ob, k _ _ (.inl rfl) e⟩
  | xd fs => obtain ⟨mA, ⟨od, es, ep, e, c⟩, r⟩ := x; exact ⟨mA, ⟨od, es, ep, k _ _ (.inl rfl) e, c⟩, r⟩
  | rng lo hi => obtain ⟨t, u, v, e⟩ := x; exact ⟨t, u, v, k _ _ (.inl rfl) e⟩
  | frz ob u ih => obtain ⟨e, q⟩ := x; exact ⟨k _ _ (.inl rfl) e, ih q⟩
  | tbl ps =>
    have e : h.get? a = some { cls := .none, data := .fields ps } := x
    show h'.get? a = some { cls := .none, data := .fields ps }
    exact k a _ (.inl rfl) e
  | met f y =>
    have e : h.get? a = some (PySem.W.methodObj (.ref f) (.ref y)) := x
    show h'.get? a = some (PySem.W.methodObj (.ref f) (.ref y))
    exact k a _ (.inl rfl) e
  | ext φ => obtain ⟨p, ⟨o, e⟩, st⟩ := x; exact ⟨st _ _ p fun o q => k _ _ (.inl rfl) q, ⟨o, k _ _ (.inl rfl) e⟩, st⟩
theorem HOk.lt (x : HOk P w H h) (e : H a = some o) : a < h.objs.size := (x a o e).lt
theorem HOk.fresh (x : HOk P w H h) (e : h.objs.size ≤ a) : H a = none := by
  cases q : H a with
  | none => rfl
  | some u => exact absurd (Nat.lt_of_lt_of_le (x.lt q) e) (Nat.lt_irrefl _)
/-- every object of the heap is kept -/
theorem HOk.kept (x : HOk P w H h) (k : ∀ b u, h.get? b = some u → h'.get? b = some u) : HOk P w H h' := fun a o e =>
  (x a o e).stay (fun b u _ q => k b u q) (fun _ q => q) fun _ _ q => q
/-- a new object is laid and tracked -/
theorem HOk.laid (x : HOk P w H h) (k : ∀ b u, h.get? b = some u → h'.get? b = some u) (hp : h.objs.size ≤ a) (new : ObjOk P w (upd H a o) h' a o) : HOk P w (upd H a o) h' := fun b u e => by
  have hn := x.fresh hp
  by_cases hb : b = a
  · subst hb; rw [upd_same] at e; cases e; exact new
  · rw [upd_ne hb] at e
    exact (x b u e).stay (fun c v _ q => k c v q) (fun c q => by rw [upd_ne (ne_of_none q hn)]; exact q) fun c xs q => by rw [upd_ne (ne_of_none q hn)]; exact q
end

/-- what may be read as u: it is u, or a known u -/
def Rd (H : Hp) (a : Addr) (u : HO) : Prop := H a = some u ∨ ∃ o, H a = some (.frz o u)
theorem Rd.ok {P : Program} {w : World} {H : Hp} {h : Heap} {a : Addr} {u : HO} (r : Rd H a u) (x : HOk P w H h) : ObjOk P w H h a u := by
  rcases r with r | ⟨o, r⟩
  · exact x a u r
  · obtain ⟨_, q⟩ := x a _ r
    exact q
/-- what may be written -/
def Mut : Option HO → Prop
  | some (.lst _) => True
  | some (.dK _) => True
  | some (.dT _) => True
  | some (.set _ _) => True
  | some (.ins _ _ _) => True
  | some (.ext _) => True
  | _ => False
section
variable {P : Program} {w : World} {H : Hp} {h h' : Heap} {x e : Addr} {o' : HO}
/-- the object at e is changed: x itself, or the dict of the instance x -/
theorem HOk.write (ok : HOk P w H h) (mu : Mut (H x)) (he : e = x ∨ H e = some (.own x)) (k : ∀ b u, b ≠ e → h.get? b = some u → h'.get? b = some u) (heo : ∃ u, h'.get? e = some u)
    (new : ObjOk P w (upd H x o') h' x o') : HOk P w (upd H x o') h' := fun b u q => by
  have nown : ∀ c y, H c = some (.own y) → c ≠ x := fun c y r z => by subst z; rw [r] at mu; exact mu
  have ntup : ∀ c xs, H c = some (.tup xs) → c ≠ x := fun c xs r z => by subst z; rw [r] at mu; exact mu
  by_cases hb : b = x
  · subst hb; rw [upd_same] at q; cases q; exact new
  · rw [upd_ne hb] at q
    by_cases hbe : b = e
    · have q' : H b = some (.own x) := by
        rcases he with z | z
        · exact absurd (hbe.trans z) hb
        · rw [hbe]; exact z
      rw [q] at q'; cases q'
      obtain ⟨v, hv⟩ := heo
      exact ⟨v, by rw [hbe]; exact hv⟩
    · refine (ok b u q).stay (fun c v hc r => k c v ?_ r) (fun c r => by rw [upd_ne (nown c b r)]; exact r) fun c xs r => by rw [upd_ne (ntup c xs r)]; exact r
      rcases hc with rfl | hc
      · exact hbe
      · rintro rfl
        rcases he with z | z
        · exact nown c b hc z
        · rw [hc] at z; cases z; exact hb rfl
end

/-! ### kept unless tracked; of the frames at fs (the callers') the slots may change (an exception that passes writes there); of the records at ex (iterators) nothing is said -/
structure Un (fs ex : List Addr) (H H' : Hp) (h h' : Heap) : Prop where
  keep : ∀ b o, h.get? b = some o → H b = none → b ∉ fs → b ∉ ex → h'.get? b = some o
  slot : ∀ b o, h.get? b = some o → H b = none → b ∈ fs → b ∉ ex → ∃ sl, h'.get? b = some { o with slots := sl }
  free : ∀ b o, h.get? b = some o → H b = none → b ∉ ex → H' b = none
  there : ∀ b o, h.get? b = some o → b ∉ ex → ∃ o', h'.get? b = some o'
  tups : ∀ b xs, H b = some (.tup xs) → H' b = some (.tup xs)
  frzs : ∀ b o u, H b = some (.frz o u) → H' b = some (.frz o u)
  tbls : ∀ b ps, H b = some (.tbl ps) → ∃ more, H' b = some (.tbl (ps ++ more))
section
variable {fs fs' ex ex' : List Addr} {H H1 H2 : Hp} {h h1 h2 h' : Heap} {a x e : Addr} {o : HO}
theorem Un.any (u : Un fs ex H H1 h h1) {b : Addr} {ob : Obj} (q : h.get? b = some ob) (n : H b = none) (hx : b ∉ ex) : ∃ sl, h1.get? b = some { ob with slots := sl } := by
  by_cases hb : b ∈ fs
  · exact u.slot b ob q n hb hx
  · exact ⟨ob.slots, u.keep b ob q n hb hx⟩
theorem Un.kept (k : ∀ b u, h.get? b = some u → h'.get? b = some u) : Un fs ex H H h h' :=
  ⟨fun b ob q _ _ _ => k b ob q, fun b ob q _ _ _ => ⟨ob.slots, k b ob q⟩, fun _ _ _ n _ => n, fun b ob q _ => ⟨ob, k b ob q⟩, fun _ _ q => q, fun _ _ _ q => q, fun _ ps q => ⟨#[], by rw [q]; simp⟩⟩
theorem Un.refl : Un fs ex H H h h := Un.kept fun _ _ q => q
theorem Un.laid (k : ∀ b u, h.get? b = some u → h'.get? b = some u) (hp : h.objs.size ≤ a) (hn : H a = none) : Un fs ex H (upd H a o) h h' where
  keep := fun b u q _ _ _ => k b u q
  slot := fun b u q _ _ _ => ⟨u.slots, k b u q⟩
  free := fun b u q n _ => by rw [upd_ne (Nat.ne_of_lt (Nat.lt_of_lt_of_le (Heap.lt_size q) hp))]; exact n
  there := fun b u q _ => ⟨u, k b u q⟩
  tups := fun b xs q => by rw [upd_ne (ne_of_none q hn)]; exact q
  frzs := fun b u xs q => by rw [upd_ne (ne_of_none q hn)]; exact q
  tbls := fun b ps q => ⟨#[], by rw [upd_ne (ne_of_none q hn), q]; simp⟩
theorem Un.write (mu : Mut (H x)) (he : e = x ∨ H e = some (.own x)) (k : ∀ b u, b ≠ e → h.get? b = some u → h'.get? b = some u) (heo : ∃ u, h'.get? e = some u) : Un fs ex H (upd H x o) h h' := by
  have hx : ∀ b, H b = none → b ≠ x := fun b n z => by subst z; rw [n] at mu; exact mu
  have hb : ∀ b, H b = none → b ≠ e := fun b n z => by
    subst z
    rcases he with r | r
    · exact hx b n r
    · rw [n] at r; cases r
  have hm : ∀ b u, H b = some u → ¬ Mut (some u) → b ≠ x := fun b u q nm z => by subst z; rw [q] at mu; exact nm mu
  refine ⟨fun b u q n _ _ => k b u (hb b n) q, fun b u q n _ _ => ⟨u.slots, k b u (hb b n) q⟩, fun b u q n _ => by rw [upd_ne (hx b n)]; exact n, fun b u q _ => ?_,
    fun b xs q => by rw [upd_ne (hm b _ q fun z => z)]; exact q, fun b u xs q => by rw [upd_ne (hm b _ q fun z => z)]; exact q, fun b ps q => ⟨#[], by rw [upd_ne (hm b _ q fun z => z), q]; simp⟩⟩
  by_cases hbe : b = e
  · subst hbe; exact heo
  · exact ⟨u, k b u hbe q⟩
end

/-! ### the heap without what is tracked -/
def trk (h : Heap) (H : Hp) : List Addr := (List.range h.objs.size).filter fun a => (H a).isSome
def hidT (h : Heap) (H : Hp) : Heap := PySem.W.hideAll h (trk h H)
theorem hidT_size (h : Heap) (H : Hp) : (hidT h H).objs.size = h.objs.size := PySem.W.hideAll_size _ _
theorem hidT_get {h : Heap} {H : Hp} {b : Addr} {o : Obj} (e : h.get? b = some o) (n : H b = none) : (hidT h H).get? b = some o :=
  PySem.W.hideAll_get _ e fun hm => by
    have q : (H b).isSome = true := (List.mem_filter.mp hm).2
    rw [n] at q; simp at q
theorem of_hidT {h : Heap} {H : Hp} {b : Addr} {o : Obj} (e : (hidT h H).get? b = some o) : h.get? b = some o ∧ H b = none := by
  have e' : h.get? b = some o := PySem.W.of_hideAll (trk h H) e
  refine ⟨e', ?_⟩
  cases q : H b with
  | none => rfl
  | some x =>
    have hm : b ∈ trk h H := List.mem_filter.mpr ⟨List.mem_range.mpr (Heap.lt_size e'), by simp [q]⟩
    have z : (hidT h H).get? b = none := PySem.W.hideAll_none (trk h H) hm
    rw [z] at e; cases e

/-! ### OpenK's ledger, filled with every new object but one -/
end L2

namespace L2
open PySem PySem.Spec PyProof.Rows

/-- the module's facts, over the base: the heap at the law's entry without what is tracked there -/
structure Mod (K : PySem.W.Frag) (mg : Str → Option Value) (base : Heap) : Prop where
  kin : K.In base
  glob : base.Ns mainGlobals mg
  blt : ∃ mb, base.Ns builtinsNs mb ∧ ∀ x : Str, x ≠ "__name__" → mb x = bootBuiltins x
  nolimit : base.NoLimit

/-- the context: a def's body (or a comprehension's block) running. base: fixed through the whole law; s₀, H₀: the entry; outer: the frames whose slots others may change (a def's callers); stack: all frames that run;
   ex: iterators that were made ahead of the entry and are walked here (a comprehension's); fn: the names whose cells were made at the entry (a def: all; a comprehension's block: its own); calm: not within an except suite; pn: pins that every state bears; xe: what is wanted of an exception that leaves the code -/
structure Cx where
  prog : Program
  w : World
  K : PySem.W.Frag
  mg : Str → Option Value
  base : Heap
  A : Around
  N : List Str
  s₀ : Shared
  H₀ : Hp
  env : Env
  outer : List Env
  stack : List Env
  ex : List Addr
  fn : Str → Bool
  calm : Bool
  pn : List (Addr × Obj)
  xe : Value → Shared → Prop
/-- the callers' frames -/
def frs (l : List Env) : List Addr := l.filterMap (·.frame)
abbrev Cx.fs (X : Cx) : List Addr := frs X.outer

def Vis (sc : Scope) (x : Str) : Prop := sc.names.lookup x = some .local ∨ sc.names.lookup x = some .cell ∨ sc.names.lookup x = some .free
def Loc (sc : Scope) (x : Str) : Prop := sc.names.lookup x = some .local ∨ sc.names.lookup x = some .cell
def Look (env : Env) (h : Heap) (m : Str → Option Value) (x : Str) (u : Value) : Prop :=
  (env.kindOf x = some .local ∧ m x = some u) ∨ ((env.kindOf x = some .cell ∨ env.kindOf x = some .free) ∧ ∃ c, env.cells.lookup x = some c ∧ h.IsCell c (some u))

structure Cx.Ok (X : Cx) : Prop where
  mod : Mod X.K X.mg X.base
  kind : X.env.scope.kind = .function
  glob : X.env.globals = mainGlobals
  blt : X.env.builtins = builtinsNs
  above : X.s₀.heap.objs.size ≤ X.env.locals
  inj : ∀ x y c, X.env.cells.lookup x = some c → X.env.cells.lookup y = some c → x = y
  has : ∀ x, (X.env.kindOf x = some .cell ∨ X.env.kindOf x = some .free) → ∃ c, X.env.cells.lookup x = some c
  cab : ∀ x c, X.fn x = true → X.env.cells.lookup x = some c → X.s₀.heap.objs.size ≤ c
  hd : X.calm = true → X.A.handled = none
  frames : X.A.frames = some X.stack
  stk : X.stack = X.outer ∨ (X.stack = X.env :: X.outer ∧ X.env.frame = some X.env.locals)
  exf : ∀ b ∈ X.ex, b ≠ X.env.locals ∧ ∀ x c, X.env.cells.lookup x = some c → c ≠ b
  bs : ∀ b o, X.base.get? b = some o → X.s₀.heap.get? b = some o ∧ X.H₀ b = none
  bsz : X.base.objs.size ≤ X.s₀.heap.objs.size
  noex : ∀ b o, X.base.get? b = some o → b ∉ X.ex
  exfs : ∀ b ∈ X.ex, b ∉ X.fs
  funs : X.s₀.heap.FunFrames X.base X.outer
  frf : ∀ b ∈ X.fs, X.H₀ b = none

structure Inv (X : Cx) (pins : List (Addr × Obj)) (σ : List (Option V)) (H : Hp) (s : Shared) : Prop where
  ok : X.Ok
  os : s.os = X.s₀.os
  bare : AllBare s.gens
  base : Un X.fs X.ex X.H₀ H X.s₀.heap s.heap
  loc : ∃ m, s.heap.Ns X.env.locals m ∧ ∀ (i : Nat) (x : Str) (v : V), X.N[i]? = some x → σ[i]? = some (some v) → Vis X.env.scope x → ∃ u, RelV v u ∧ Look X.env s.heap m x u
  cell : ∀ x c, X.env.cells.lookup x = some c → ∃ v, s.heap.IsCell c v
  free : H X.env.locals = none
  freeC : ∀ x c, X.env.cells.lookup x = some c → H c = none
  pin : ∀ p ∈ X.pn ++ pins, s.heap.get? p.1 = some p.2 ∧ H p.1 = none ∧ p.1 ≠ X.env.locals ∧ p.1 ∉ X.fs ∧ ∀ v, p.2.data ≠ .cell v
  hok : HOk X.prog X.w H s.heap
  len : σ.length = X.N.length

section
variable {X : Cx} {pins : List (Addr × Obj)} {σ : List (Option V)} {H H' : Hp} {s : Shared} {h' : Heap}

theorem Cx.Ok.nofr (ok : X.Ok) {b : Addr} {o : Obj} (e : X.base.get? b = some o) : b ∉ X.fs := fun hb => by
  have := (ok.funs.mem hb).1
  rw [e] at this; cases this
theorem Inv.bs (I : Inv X pins σ H s) : ∀ b o, X.base.get? b = some o → s.heap.get? b = some o ∧ H b = none := fun b o e =>
  ⟨I.base.keep b o (I.ok.bs b o e).1 (I.ok.bs b o e).2 (I.ok.nofr e) (I.ok.noex b o e), I.base.free b o (I.ok.bs b o e).1 (I.ok.bs b o e).2 (I.ok.noex b o e)⟩
theorem Inv.bk (I : Inv X pins σ H s) : ∀ b o, X.base.get? b = some o → s.heap.get? b = some o := fun b o e => (I.bs b o e).1
theorem Inv.mod (I : Inv X pins σ H s) : Mod X.K X.mg X.base := I.ok.mod
theorem Inv.kIn (I : Inv X pins σ H s) : X.K.In s.heap := I.ok.mod.kin.keeps I.bk
theorem Inv.lt (I : Inv X pins σ H s) : X.env.locals < s.heap.objs.size := let ⟨_, hn, _⟩ := I.loc; hn.lt
theorem Inv.sz (I : Inv X pins σ H s) : X.s₀.heap.objs.size ≤ s.heap.objs.size := Nat.le_trans I.ok.above (Nat.le_of_lt I.lt)
theorem Inv.nofs (I : Inv X pins σ H s) {a : Addr} (h : s.heap.objs.size ≤ a) : a ∉ X.fs := fun hb => by
  obtain ⟨_, o, ho, _⟩ := I.ok.funs.mem hb
  exact absurd (Nat.lt_of_lt_of_le (Heap.lt_size ho) (Nat.le_trans I.sz h)) (Nat.lt_irrefl _)
theorem Inv.cne (I : Inv X pins σ H s) : ∀ x c, X.env.cells.lookup x = some c → c ≠ X.env.locals := fun x c e z => by
  obtain ⟨v, o, ho, hd⟩ := I.cell x c e
  obtain ⟨m, ⟨o', es, ep, ho', hd', _⟩, _⟩ := I.loc
  rw [z, ho'] at ho; cases ho; rw [hd'] at hd; cases hd
theorem Inv.funs (I : Inv X pins σ H s) : s.heap.FunFrames X.base X.outer := by
  have all : ∀ (l : List Env), (∀ b ∈ frs l, b ∈ X.fs) → X.s₀.heap.FunFrames X.base l → s.heap.FunFrames X.base l := by
    intro l
    induction l with
    | nil => intro _ _; trivial
    | cons env r ih =>
      intro hs hl
      obtain ⟨hk, ⟨L, o, hf, hn, ho, hd⟩, hr⟩ := hl
      have hL : L ∈ X.fs := hs L (by unfold frs; rw [List.filterMap_cons, hf]; exact List.mem_cons_self)
      obtain ⟨sl, e⟩ := I.base.slot L o ho (I.ok.frf L hL) hL fun z => I.ok.exfs L z hL
      exact ⟨hk, ⟨L, _, hf, hn, e, hd⟩, ih (fun b hb => hs b (by unfold frs; rw [List.filterMap_cons, hf]; exact List.mem_cons_of_mem _ hb)) hr⟩
  exact all X.outer (fun _ hb => hb) I.ok.funs

/-- the frames that run, for a call -/
theorem Inv.stack (I : Inv X pins σ H s) : s.heap.FunFrames X.base X.stack := by
  rcases I.ok.stk with e | ⟨e, hf⟩
  · rw [e]; exact I.funs
  · rw [e]
    obtain ⟨m, hn, _⟩ := I.loc
    refine .cons (by rw [I.ok.kind]; decide) hf hn ?_ I.funs
    exact Heap.get?_none_of_le (Nat.le_trans I.ok.bsz I.ok.above)
theorem Inv.stkSub (I : Inv X pins σ H s) : ∀ b ∈ frs X.stack, b ∈ X.env.locals :: X.fs := fun b hb => by
  rcases I.ok.stk with e | ⟨e, hf⟩
  · rw [e] at hb; exact List.mem_cons_of_mem _ hb
  · rw [e] at hb
    unfold frs at hb
    rw [List.filterMap_cons, hf] at hb
    exact hb
theorem Inv.stkFree (I : Inv X pins σ H s) : ∀ b ∈ frs X.stack, H b = none := fun b hb => by
  rcases List.mem_cons.mp (I.stkSub b hb) with e | hb
  · rw [e]; exact I.free
  · obtain ⟨_, o, ho, _⟩ := I.ok.funs.mem hb
    exact I.base.free b o ho (I.ok.frf b hb) fun z => I.ok.exfs b z hb

/-- THE STEP: the untracked objects but the frame and the records at ch are kept (the callers' frames up to slots), the frame's map is kept, the new abstract heap is held -/
theorem Inv.step {g' : Array GenState} {t' : Nat} {d' : Drawn} {ch : List Addr} (I : Inv X pins σ H s)
    (hch : ∀ b ∈ ch, (b ∈ X.ex ∨ X.s₀.heap.objs.size ≤ b) ∧ b ≠ X.env.locals ∧ (∀ x c, X.env.cells.lookup x = some c → c ≠ b) ∧ ∀ p ∈ X.pn ++ pins, p.1 ≠ b)
    (keep : ∀ b o, b ≠ X.env.locals → b ∉ X.fs → b ∉ ch → s.heap.get? b = some o → H b = none → h'.get? b = some o)
    (slot : ∀ b o, b ≠ X.env.locals → b ∈ X.fs → b ∉ ch → s.heap.get? b = some o → H b = none → ∃ sl, h'.get? b = some { o with slots := sl }) (free : ∀ b o, b ∉ ch → s.heap.get? b = some o → H b = none → H' b = none)
    (there : ∀ b o, b ∉ ch → s.heap.get? b = some o → ∃ o', h'.get? b = some o')
    (tups : ∀ b xs, H b = some (.tup xs) → H' b = some (.tup xs)) (frzs : ∀ b o u, H b = some (.frz o u) → H' b = some (.frz o u)) (tbls : ∀ b ps, H b = some (.tbl ps) → ∃ more, H' b = some (.tbl (ps ++ more)))
    (ns : ∀ m, s.heap.Ns X.env.locals m → h'.Ns X.env.locals m) (hok : HOk X.prog X.w H' h') (hg : AllBare g') :
    Inv X pins σ H' { s with heap := h', gens := g', drawn := d', toks := t' } := by
  have neL : ∀ b o, X.s₀.heap.get? b = some o → b ≠ X.env.locals := fun b o e => Nat.ne_of_lt (Nat.lt_of_lt_of_le (Heap.lt_size e) I.ok.above)
  have neC : ∀ b o, X.s₀.heap.get? b = some o → b ∉ X.ex → b ∉ ch := fun b o e hx hb => by
    rcases (hch b hb).1 with z | z
    · exact hx z
    · exact absurd (Nat.lt_of_lt_of_le (Heap.lt_size e) z) (Nat.lt_irrefl _)
  have cellK : ∀ x c, X.env.cells.lookup x = some c → ∀ v, s.heap.IsCell c v → h'.IsCell c v := fun x c e v ⟨o, ho, hd⟩ => by
    have nch : c ∉ ch := fun z => (hch c z).2.2.1 x c e rfl
    by_cases hc : c ∈ X.fs
    · obtain ⟨sl, q⟩ := slot c o (I.cne x c e) hc nch ho (I.freeC x c e)
      exact ⟨_, q, hd⟩
    · exact ⟨o, keep c o (I.cne x c e) hc nch ho (I.freeC x c e), hd⟩
  refine ⟨I.ok, I.os, hg, ⟨fun b o e n hb hx => ?_, fun b o e n hb hx => ?_, fun b o e n hx => ?_, fun b o e hx => ?_, fun b xs e => tups b xs (I.base.tups b xs e), fun b o xs e => frzs b o xs (I.base.frzs b o xs e), fun b ps e => ?_⟩, ?_, fun x c e => ?_, ?_, fun x c e => ?_, fun p hp => ?_, hok, I.len⟩
  · exact keep b o (neL b o e) hb (neC b o e hx) (I.base.keep b o e n hb hx) (I.base.free b o e n hx)
  · obtain ⟨sl, e1⟩ := I.base.slot b o e n hb hx
    obtain ⟨sl', e2⟩ := slot b _ (neL b o e) hb (neC b o e hx) e1 (I.base.free b o e n hx)
    exact ⟨sl', e2⟩
  · obtain ⟨o', e1⟩ := I.base.there b o e hx
    exact free b o' (neC b o e hx) e1 (I.base.free b o e n hx)
  · obtain ⟨o', e1⟩ := I.base.there b o e hx
    exact there b o' (neC b o e hx) e1
  · obtain ⟨m1, e1⟩ := I.base.tbls b ps e
    obtain ⟨m2, e2⟩ := tbls b _ e1
    exact ⟨m1 ++ m2, by rw [e2, Array.append_assoc]⟩
  · obtain ⟨m, hn, hl⟩ := I.loc
    refine ⟨m, ns m hn, fun i x v e1 e2 e3 => ?_⟩
    obtain ⟨u, r, l⟩ := hl i x v e1 e2 e3
    refine ⟨u, r, ?_⟩
    rcases l with l | ⟨k, c, e, z⟩
    · exact .inl l
    · exact .inr ⟨k, c, e, cellK x c e _ z⟩
  · obtain ⟨v, z⟩ := I.cell x c e
    exact ⟨v, cellK x c e v z⟩
  · obtain ⟨m, ⟨o, _, _, ho, _⟩, _⟩ := I.loc
    exact free _ o (fun z => (hch _ z).2.1 rfl) ho I.free
  · obtain ⟨v, o, ho, hd⟩ := I.cell x c e
    exact free c o (fun z => (hch c z).2.2.1 x c e rfl) ho (I.freeC x c e)
  · obtain ⟨e, n, ne, nf, d⟩ := I.pin p hp
    have nch : p.1 ∉ ch := fun z => (hch p.1 z).2.2.2 p hp rfl
    exact ⟨keep p.1 p.2 ne nf nch e n, free p.1 p.2 nch e n, ne, nf, d⟩
/-- .. where the frame's own object is kept too -/
theorem Inv.un {t' : Nat} (I : Inv X pins σ H s) (u : Un X.fs [] H H' s.heap h') (hok : HOk X.prog X.w H' h') : Inv X pins σ H' { s with heap := h', toks := t' } := by
  obtain ⟨m, ⟨o, es, ep, ho, r⟩, _⟩ := id I.loc
  obtain ⟨sl, hL⟩ := u.any ho I.free (by simp)
  exact I.step (g' := s.gens) (d' := s.drawn) (ch := []) (fun _ z => nomatch z) (fun b o _ hb _ e n => u.keep b o e n hb (by simp)) (fun b o _ hb _ e n => u.slot b o e n hb (by simp)) (fun b o _ e n => u.free b o e n (by simp)) (fun b o _ e => u.there b o e (by simp)) u.tups u.frzs u.tbls (fun m' hm => by
    obtain ⟨o', es', ep', ho', r'⟩ := hm
    rw [ho] at ho'; cases ho'
    exact ⟨_, es', ep', hL, r'⟩) hok I.bare
/-- behind a call (or a comprehension's block): the slots of this frame may have changed too, the records at ch may have turned -/
theorem Inv.call {g' : Array GenState} {t' : Nat} {d' : Drawn} {ch : List Addr} (I : Inv X pins σ H s) (u : Un (frs X.stack) ch H H' s.heap h') (hok : HOk X.prog X.w H' h') (hg : AllBare g')
    (hch : ∀ b ∈ ch, (b ∈ X.ex ∨ X.s₀.heap.objs.size ≤ b) ∧ b ≠ X.env.locals ∧ (∀ x c, X.env.cells.lookup x = some c → c ≠ b) ∧ ∀ p ∈ X.pn ++ pins, p.1 ≠ b) :
    Inv X pins σ H' { s with heap := h', gens := g', drawn := d', toks := t' } := by
  obtain ⟨m, ⟨o, es, ep, ho, r⟩, _⟩ := id I.loc
  obtain ⟨sl, hL⟩ := u.any ho I.free fun z => (hch _ z).2.1 rfl
  exact I.step (ch := ch) hch (fun b o hL hb hc e n => u.keep b o e n (fun z => (List.mem_cons.mp (I.stkSub b z)).elim hL hb) hc) (fun b o _ _ hc e n => u.any e n hc) (fun b o hc e n => u.free b o e n hc) (fun b o hc e => u.there b o e hc) u.tups u.frzs u.tbls (fun m' hm => by
    obtain ⟨o', es', ep', ho', r'⟩ := hm
    rw [ho] at ho'; cases ho'
    exact ⟨_, es', ep', hL, r'⟩) hok hg
/-- an untracked record of ours (an iterator) has turned -/
theorem Inv.turned {t' : Nat} {it : Addr} (I : Inv X pins σ H s) (k : ∀ b o, b ≠ it → s.heap.get? b = some o → h'.get? b = some o) (hn : H it = none) (hL : it ≠ X.env.locals)
    (h1 : it ∈ X.ex ∨ X.s₀.heap.objs.size ≤ it) (h2 : ∀ x c, X.env.cells.lookup x = some c → c ≠ it) (h3 : ∀ p ∈ X.pn ++ pins, p.1 ≠ it) : Inv X pins σ H { s with heap := h', toks := t' } := by
  have nit : ∀ b u, H b = some u → b ≠ it := fun b u e z => by rw [z, hn] at e; cases e
  refine I.step (g' := s.gens) (d' := s.drawn) (ch := [it]) (fun b hb => ?_) (fun b o _ _ hc e _ => k b o (fun z => hc (by simp [z])) e) (fun b o _ _ hc e _ => ⟨o.slots, k b o (fun z => hc (by simp [z])) e⟩) (fun _ _ _ _ n => n)
    (fun b o hc e => ⟨o, k b o (fun z => hc (by simp [z])) e⟩) (fun _ _ e => e) (fun _ _ _ e => e) (fun b ps e => ⟨#[], by rw [e]; simp⟩) (fun m hm => ?_) (fun b u e => ?_) I.bare
  · have e : b = it := by simpa using hb
    subst e
    exact ⟨h1, hL, h2, h3⟩
  · obtain ⟨o, es, ep, ho, r⟩ := hm
    exact ⟨o, es, ep, k _ o (Ne.symm hL) ho, r⟩
  · refine (I.hok b u e).stay (fun c v hc q => k c v ?_ q) (fun _ q => q) fun _ _ q => q
    rcases hc with z | z
    · rw [z]; exact nit b u e
    · exact nit c _ z
theorem Inv.tok (I : Inv X pins σ H s) (t : Nat) : Inv X pins σ H { s with toks := t } := I.un (h' := s.heap) (t' := t) Un.refl I.hok
/-- all objects kept -/
theorem Inv.kept {t' : Nat} (I : Inv X pins σ H s) (k : ∀ b u, s.heap.get? b = some u → h'.get? b = some u) : Inv X pins σ H { s with heap := h', toks := t' } := I.un (Un.kept k) (I.hok.kept k)
/-- a new object laid and tracked -/
theorem Inv.laid {a : Addr} {o : HO} {t' : Nat} (I : Inv X pins σ H s) (k : ∀ b u, s.heap.get? b = some u → h'.get? b = some u) (hp : s.heap.objs.size ≤ a) (new : ObjOk X.prog X.w (upd H a o) h' a o) :
    Inv X pins σ (upd H a o) { s with heap := h', toks := t' } := I.un (Un.laid k hp (I.hok.fresh hp)) (I.hok.laid k hp new)
/-- an object written -/
theorem Inv.write {x e : Addr} {o : HO} {t' : Nat} (I : Inv X pins σ H s) (mu : Mut (H x)) (he : e = x ∨ H e = some (.own x)) (k : ∀ b u, b ≠ e → s.heap.get? b = some u → h'.get? b = some u) (heo : ∃ u, h'.get? e = some u)
    (new : ObjOk X.prog X.w (upd H x o) h' x o) : Inv X pins σ (upd H x o) { s with heap := h', toks := t' } := I.un (Un.write mu he k heo) (I.hok.write mu he k heo new)
/-- forgetting slots, pins -/
theorem Inv.weak {σ' : List (Option V)} (I : Inv X pins σ H s) (hl : σ'.length = σ.length) (w : ∀ (i : Nat) v, σ'[i]? = some (some v) → σ[i]? = some (some v)) : Inv X pins σ' H s :=
  ⟨I.ok, I.os, I.bare, I.base, let ⟨m, hn, hl'⟩ := I.loc; ⟨m, hn, fun i x v e1 e2 e3 => hl' i x v e1 (w i v e2) e3⟩, I.cell, I.free, I.freeC, I.pin, I.hok, hl.trans I.len⟩
theorem Inv.pins_of {pins' : List (Addr × Obj)} (I : Inv X pins σ H s) (h : ∀ p ∈ pins', s.heap.get? p.1 = some p.2 ∧ H p.1 = none ∧ p.1 ≠ X.env.locals ∧ p.1 ∉ X.fs ∧ ∀ v, p.2.data ≠ .cell v) : Inv X pins' σ H s :=
  ⟨I.ok, I.os, I.bare, I.base, I.loc, I.cell, I.free, I.freeC, fun p hp => (List.mem_append.mp hp).elim (fun z => I.pin p (List.mem_append_left _ z)) (h p), I.hok, I.len⟩

theorem nodup_ix {N : List Str} (hN : N.Nodup) {i j : Nat} {x : Str} (a : N[i]? = some x) (b : N[j]? = some x) : i = j := by
  obtain ⟨h1, e1⟩ := List.getElem?_eq_some_iff.mp a
  obtain ⟨h2, e2⟩ := List.getElem?_eq_some_iff.mp b
  exact (List.getElem_inj hN).mp (e1.trans e2.symm)

/-- a name is stored; what changed -/
theorem store_ok2 {M : Model} {A : Around} {E : Value → Shared → Prop} {i : Nat} {x : Str} {v : V} {u : Value} {Q : Unit → Shared → Prop} (I : Inv X pins σ H s) (hN : X.N.Nodup) (hi : X.N[i]? = some x) (hx : Loc X.env.scope x) (r : RelV v u)
    (h : ∀ s', Inv X pins (σ.set i (some v)) H s' → (∃ a, Heap.SameBut a s.heap s'.heap ∧ (a = X.env.locals ∨ X.env.cells.lookup x = some a)) → Q () s') (hf : X.fn x = true ∨ X.env.scope.names.lookup x = some .local := by first | exact .inl rfl | exact .inr rfl | assumption) : wpAny M A (storeName X.env x u) Q E s := by
  obtain ⟨m, hn, hl⟩ := id I.loc
  have hcls : (X.env.scope.kind == .class || (X.env.scope.kind == .module && X.env.locals != X.env.globals)) = false := by rw [I.ok.kind]; rfl
  have hiσ : i < σ.length := by rw [I.len]; exact (List.getElem?_eq_some_iff.mp hi).1
  have cne := I.cne
  have tracked : ∀ {a : Addr} {h' : Heap}, (∃ o, s.heap.get? a = some o ∧ H a = none) → Heap.SameBut a s.heap h' → HOk X.prog X.w H h' := fun {a h'} ha hs b ob e => by
    obtain ⟨_, _, hfree⟩ := ha
    refine (I.hok b ob e).stay (fun c w' hc q => (hs.2 c ?_).trans q) (fun _ q => q) fun _ _ q => q
    rintro rfl
    rcases hc with rfl | hc
    · rw [hfree] at e; cases e
    · rw [hfree] at hc; cases hc
  rcases hx with hk | hk
  · refine wpAny_storeName_local hk hn (fun h' hn' hs => ?_) hcls
    obtain ⟨oL, _, _, hoL, _⟩ := id hn
    refine h _ ⟨I.ok, I.os, I.bare, ⟨fun b o e n hb hx => ?_, fun b o e n hb hx => ?_, I.base.free, fun b o e hx => ?_, I.base.tups, I.base.frzs, I.base.tbls⟩, ⟨_, hn', fun j y v' e1 e2 e3 => ?_⟩, fun y c e => ?_, I.free, I.freeC, fun p hp => ?_, tracked ⟨oL, hoL, I.free⟩ hs, by simpa using I.len⟩ ⟨_, hs, .inl rfl⟩
    · exact (hs.2 b (Nat.ne_of_lt (Nat.lt_of_lt_of_le (Heap.lt_size e) I.ok.above))).trans (I.base.keep b o e n hb hx)
    · obtain ⟨sl, e1⟩ := I.base.slot b o e n hb hx
      exact ⟨sl, (hs.2 b (Nat.ne_of_lt (Nat.lt_of_lt_of_le (Heap.lt_size e) I.ok.above))).trans e1⟩
    · obtain ⟨o', e1⟩ := I.base.there b o e hx
      exact ⟨o', (hs.2 b (Nat.ne_of_lt (Nat.lt_of_lt_of_le (Heap.lt_size e) I.ok.above))).trans e1⟩
    · by_cases hj : j = i
      · subst hj
        rw [hi] at e1; cases e1
        rw [List.getElem?_set_self hiσ] at e2
        cases e2
        exact ⟨u, r, .inl ⟨hk, by simp⟩⟩
      · rw [List.getElem?_set_ne (Ne.symm hj)] at e2
        obtain ⟨u', r', q⟩ := hl j y v' e1 e2 e3
        refine ⟨u', r', ?_⟩
        rcases q with ⟨k, e⟩ | ⟨k, c, e, z⟩
        · refine .inl ⟨k, ?_⟩
          have : y ≠ x := fun e => hj (nodup_ix hN e1 (e ▸ hi))
          simp [this, e]
        · exact .inr ⟨k, c, e, z.sameBut hs (cne y c e)⟩
    · obtain ⟨w', z⟩ := I.cell y c e
      exact ⟨w', z.sameBut hs (cne y c e)⟩
    · obtain ⟨e, n, ne, nf, d⟩ := I.pin p hp
      exact ⟨(hs.2 p.1 ne).trans e, n, ne, nf, d⟩
  · have hfn : X.fn x = true := by
      rcases hf with z | z
      · exact z
      · rw [z] at hk; cases hk
    obtain ⟨c, hc⟩ := I.ok.has x (.inl hk)
    obtain ⟨w', z⟩ := I.cell x c hc
    refine wpAny_storeName_cell I.ok.kind hk hc z (fun h' hc' hs => ?_)
    obtain ⟨oc, hoc, hocd⟩ := id z
    refine h { s with heap := h' } ⟨I.ok, I.os, I.bare, ⟨fun b o e n hb hx => ?_, fun b o e n hb hx => ?_, I.base.free, fun b o e hx => ?_, I.base.tups, I.base.frzs, I.base.tbls⟩, ⟨m, hn.sameBut hs (Ne.symm (cne x c hc)), fun j y v' e1 e2 e3 => ?_⟩, fun y c' e => ?_, I.free, I.freeC, fun p hp => ?_, tracked ⟨oc, hoc, I.freeC x c hc⟩ hs, by simpa using I.len⟩ ⟨c, hs, .inr hc⟩
    · exact (hs.2 b (Nat.ne_of_lt (Nat.lt_of_lt_of_le (Heap.lt_size e) (I.ok.cab x c hfn hc)))).trans (I.base.keep b o e n hb hx)
    · obtain ⟨sl, e1⟩ := I.base.slot b o e n hb hx
      exact ⟨sl, (hs.2 b (Nat.ne_of_lt (Nat.lt_of_lt_of_le (Heap.lt_size e) (I.ok.cab x c hfn hc)))).trans e1⟩
    · obtain ⟨o', e1⟩ := I.base.there b o e hx
      exact ⟨o', (hs.2 b (Nat.ne_of_lt (Nat.lt_of_lt_of_le (Heap.lt_size e) (I.ok.cab x c hfn hc)))).trans e1⟩
    · by_cases hj : j = i
      · subst hj
        rw [hi] at e1; cases e1
        rw [List.getElem?_set_self hiσ] at e2
        cases e2
        exact ⟨u, r, .inr ⟨.inl hk, c, hc, hc'⟩⟩
      · rw [List.getElem?_set_ne (Ne.symm hj)] at e2
        obtain ⟨u', r', q⟩ := hl j y v' e1 e2 e3
        refine ⟨u', r', ?_⟩
        rcases q with q | ⟨k, c', e, z'⟩
        · exact .inl q
        · refine .inr ⟨k, c', e, z'.sameBut hs ?_⟩
          rintro rfl
          exact hj (nodup_ix hN e1 (I.ok.inj _ _ _ e hc ▸ hi))
    · by_cases hcc : c' = c
      · subst hcc; exact ⟨_, hc'⟩
      · obtain ⟨w2, z2⟩ := I.cell y c' e
        exact ⟨w2, z2.sameBut hs hcc⟩
    · obtain ⟨e, n, ne, nf, d⟩ := I.pin p hp
      refine ⟨(hs.2 p.1 ?_).trans e, n, ne, nf, d⟩
      intro q
      rw [q, hoc] at e
      have q' : oc = p.2 := Option.some.inj e
      exact d w' (by rw [← q']; exact hocd)
theorem store_ok {M : Model} {A : Around} {E : Value → Shared → Prop} {i : Nat} {x : Str} {v : V} {u : Value} {Q : Unit → Shared → Prop} (I : Inv X pins σ H s) (hN : X.N.Nodup) (hi : X.N[i]? = some x) (hx : Loc X.env.scope x) (r : RelV v u)
    (h : ∀ s', Inv X pins (σ.set i (some v)) H s' → Q () s') (hf : X.fn x = true ∨ X.env.scope.names.lookup x = some .local := by first | exact .inl rfl | exact .inr rfl | assumption) : wpAny M A (storeName X.env x u) Q E s :=
  store_ok2 I hN hi hx r (fun s' I' _ => h s' I') hf
/-- behind a call or a block, the state as it is -/
theorem Inv.call' {s' : Shared} {ch : List Addr} (I : Inv X pins σ H s) (ho : s'.os = s.os) (u : Un (frs X.stack) ch H H' s.heap s'.heap) (hok : HOk X.prog X.w H' s'.heap) (hg : AllBare s'.gens)
    (hch : ∀ b ∈ ch, (b ∈ X.ex ∨ X.s₀.heap.objs.size ≤ b) ∧ b ≠ X.env.locals ∧ (∀ x c, X.env.cells.lookup x = some c → c ≠ b) ∧ ∀ p ∈ X.pn ++ pins, p.1 ≠ b) : Inv X pins σ H' s' := by
  obtain ⟨h', g', d', t', o'⟩ := s'
  have e : o' = s.os := ho
  subst e
  exact I.call (g' := g') (t' := t') (d' := d') u hok hg hch
end

/-! ### the judgements -/
/-- an exception: its class, its own dict's address (where it has one), the abstract heap behind it -/
abbrev XK := Value → Option Addr → Hp → Prop
abbrev St := List (Option V)
abbrev VK := V → Hp → Prop
/-- an expression's reading; a test's; an argument list's -/
abbrev TE := St → Hp → VK → Prop
abbrev TT := St → Hp → (Bool → Hp → Prop) → Prop
abbrev TA := St → Hp → (List V → Hp → Prop) → Prop
/-- what is wanted behind a statement -/
structure Ends where
  nx : St → Hp → Prop
  rt : VK
  bk : St → Hp → Prop := fun _ _ => False
  ct : St → Hp → Prop := fun _ _ => False
abbrev TS := Ends → St → Hp → Prop

def EP (X : Cx) (pins : List (Addr × Obj)) (σ : St) (Q : VK) (u : Value) (s' : Shared) : Prop := ∃ v H', Inv X pins σ H' s' ∧ RelV v u ∧ Q v H'
def TP (X : Cx) (pins : List (Addr × Obj)) (σ : St) (Q : Bool → Hp → Prop) (b : Bool) (s' : Shared) : Prop := ∃ H', Inv X pins σ H' s' ∧ Q b H'
def AP (X : Cx) (pins : List (Addr × Obj)) (σ : St) (Q : List V → Hp → Prop) (us : List Value) (s' : Shared) : Prop := ∃ vs H', Inv X pins σ H' s' ∧ Vals vs us ∧ Q vs H'
def SP (X : Cx) (pins : List (Addr × Obj)) (D : Ends) (f : Flow) (s' : Shared) : Prop :=
  match f with
  | .next => ∃ σ' H', Inv X pins σ' H' s' ∧ D.nx σ' H'
  | .brk => ∃ σ' H', Inv X pins σ' H' s' ∧ D.bk σ' H'
  | .cont => ∃ σ' H', Inv X pins σ' H' s' ∧ D.ct σ' H'
  | .ret u => ∃ v σ' H', Inv X pins σ' H' s' ∧ RelV v u ∧ D.rt v H'

def PE (X : Cx) (e : Expr) (t : TE) : Prop :=
  ∀ (pins : List (Addr × Obj)) (s : Shared) (σ : St) (H : Hp) (Q : VK), Inv X pins σ H s → t σ H Q → wpAny (model X.prog X.w) X.A (eval e X.env) (EP X pins σ Q) X.xe s
def PT (X : Cx) (e : Expr) (t : TT) : Prop :=
  ∀ (pins : List (Addr × Obj)) (s : Shared) (σ : St) (H : Hp) (Q : Bool → Hp → Prop), Inv X pins σ H s → t σ H Q → wpAny (model X.prog X.w) X.A (isTrue e X.env (eval e X.env)) (TP X pins σ Q) X.xe s
/-- a test whatever its 'whole' is (and, or) -/
def PW (X : Cx) (e : Expr) (t : TT) : Prop :=
  ∀ (whole : Sem Value) (pins : List (Addr × Obj)) (s : Shared) (σ : St) (H : Hp) (Q : Bool → Hp → Prop), Inv X pins σ H s → t σ H Q → wpAny (model X.prog X.w) X.A (isTrue e X.env whole) (TP X pins σ Q) X.xe s
theorem PW.pt {X : Cx} {e : Expr} {t : TT} (h : PW X e t) : PT X e t := h _
/-- an argument list (no star), from the left -/
def PA (X : Cx) (es : List Expr) (t : TA) : Prop :=
  ∀ (pos : Pos) (pins : List (Addr × Obj)) (s : Shared) (σ : St) (H : Hp) (Q : List V → Hp → Prop), Inv X pins σ H s → t σ H Q → wpAny (model X.prog X.w) X.A (spliced (backTo pos (starEach es X.env))) (AP X pins σ Q) X.xe s
def PS (X : Cx) (st : Stmt) (t : TS) : Prop :=
  ∀ (pins : List (Addr × Obj)) (s : Shared) (σ : St) (H : Hp) (D : Ends), Inv X pins σ H s → t D σ H → wpAny (model X.prog X.w) X.A (exec st X.env) (SP X pins D) X.xe s
def PSs (X : Cx) (st : List Stmt) (t : TS) : Prop :=
  ∀ (pins : List (Addr × Obj)) (s : Shared) (σ : St) (H : Hp) (D : Ends), Inv X pins σ H s → t D σ H → wpAny (model X.prog X.w) X.A (execs st X.env) (SP X pins D) X.xe s
/-- weaken the end -/
theorem thn {α : Type} {t : Sem α} {Q Q' : α → Shared → Prop} {M : Model} {A : Around} {E : Value → Shared → Prop} {s : Shared} (h : wpAny M A t Q E s) (hQ : ∀ a s, Q a s → Q' a s) : wpAny M A t Q' E s := wpAny_mono h hQ fun _ _ x => x
end L2

namespace L2
open PySem PySem.Spec PyProof.Rows
section
variable {X : Cx}


/-! ### names and constants -/
def tVar (i : Nat) : TE := fun σ H Q => ∃ v, σ[i]? = some (some v) ∧ Q v H
def tC (v : V) : TE := fun _ H Q => Q v H
theorem pe_var {i : Nat} {x : Str} {pos : Pos} (hN : X.N[i]? = some x) (hv : Vis X.env.scope x) (hd : (x == ("__debug__" : Str)) = false := by decide) (hcd : (x == ("__classdict__" : Str)) = false := by decide) : PE X (.Name x pos) (tVar i) := by
  intro pins s σ H Q I h
  obtain ⟨v, e, h⟩ := h
  obtain ⟨m, hn, hl⟩ := I.loc
  obtain ⟨u, r, l⟩ := hl i x v hN e hv
  have fin : EP X pins σ Q u s := ⟨v, H, I, r, h⟩
  rcases l with ⟨hk, hm⟩ | ⟨hk, c, hc, hcell⟩
  · exact wpAny_Name (wpAny_loadName_local I.ok.kind hk hn hm fin) hd
  · rcases hk with hk | hk
    · exact wpAny_Name (wpAny_loadName_cell I.ok.kind hk hc hcell fin) hd
    · exact wpAny_Name (wpAny_loadName_free I.ok.kind hk hc hcell fin hcd) hd
theorem pe_int {i j pos} : PE X (.Constant (.int i) j pos) (tC (.int i)) := fun _ _ _ H _ I h => wpAny_Constant_int ⟨.int i, H, I.tok _, ⟨_, rfl⟩, h⟩
theorem pe_bl {b j pos} : PE X (.Constant (.bool b) j pos) (tC (.bl b)) := fun _ _ _ H _ I h => Constant_bool ⟨.bl b, H, I, rfl, h⟩
theorem pe_non {j pos} : PE X (.Constant .none j pos) (tC .non) := fun _ _ _ H _ I h => Constant_none ⟨.non, H, I, rfl, h⟩

/-- a global name of the def -/
def Gl (X : Cx) (x : Str) : Prop := X.env.kindOf x = some .globalImplicit
theorem ld_glob {E : Value → Shared → Prop} {pins : List (Addr × Obj)} {s : Shared} {σ : St} {H : Hp} {x : Str} {u : Value} {pos : Pos} {Q : Value → Shared → Prop} (I : Inv X pins σ H s) (hg : Gl X x) (hm : X.mg x = some u) (h : Q u s)
    (hd : (x == ("__debug__" : Str)) = false := by decide) : wpAny (model X.prog X.w) X.A (eval (.Name x pos) X.env) Q E s :=
  Calls.Name_function_global I.ok.kind hg (Calls.loadGlobal_global (by rw [I.ok.glob]; exact I.mod.glob.keeps I.bk) hm h) hd
theorem ld_blt {E : Value → Shared → Prop} {pins : List (Addr × Obj)} {s : Shared} {σ : St} {H : Hp} {x : Str} {u : Value} {pos : Pos} {Q : Value → Shared → Prop} (I : Inv X pins σ H s) (hg : Gl X x) (hm : X.mg x = none) (hv : bootBuiltins x = some u) (h : Q u s)
    (hn : x ≠ "__name__" := by decide) (hd : (x == ("__debug__" : Str)) = false := by decide) : wpAny (model X.prog X.w) X.A (eval (.Name x pos) X.env) Q E s := by
  obtain ⟨mb, h1, h2⟩ := I.mod.blt
  exact Calls.Name_function_global I.ok.kind hg (Calls.loadGlobal_builtin (by rw [I.ok.glob]; exact I.mod.glob.keeps I.bk) hm (by rw [I.ok.blt]; exact h1.keeps I.bk) ((h2 x hn).trans hv) h) hd
theorem pe_bltn {x : Str} {v : V} {u : Value} {pos : Pos} (hg : Gl X x) (hm : X.mg x = none) (hv : bootBuiltins x = some u) (r : RelV v u) (hn : x ≠ "__name__" := by decide) (hd : (x == ("__debug__" : Str)) = false := by decide) : PE X (.Name x pos) (tC v) :=
  fun _ _ _ H _ I h => ld_blt I hg hm hv ⟨v, H, I, r, h⟩ hn hd

/-! ### arithmetic -/
variable {a b : Expr} {ta tb : TE} {pos : Pos}

/-! ### comparisons -/
def PC (X : Cx) (op : CmpOp) (a b : Expr) (t : TE) : Prop :=
  ∀ (pins : List (Addr × Obj)) (s : Shared) (σ : St) (H : Hp) (Q : VK), Inv X pins σ H s → t σ H Q →
    wpAny (model X.prog X.w) X.A (eval a X.env) (fun v s₁ => wpAny (model X.prog X.w) X.A (eval b X.env) (fun u s₂ => wpAny (model X.prog X.w) X.A (compareOp op v u) (EP X pins σ Q) X.xe s₂) X.xe s₁) X.xe s
theorem nobehind (b : Expr) {op : CmpOp} (h : op ≠ .In) (h2 : op ≠ .NotIn) : behindInMarks op b = false := by
  have e1 : (op == CmpOp.In) = false := by cases op <;> first | rfl | exact absurd rfl h
  have e2 : (op == CmpOp.NotIn) = false := by cases op <;> first | rfl | exact absurd rfl h2
  cases b <;> simp [behindInMarks, e1, e2]
/-- is None -/
def tIsN (ta : TE) : TE := fun σ H Q => ta σ H fun x H1 => Q (.bl (decide (x = .non))) H1
def tNotN (ta : TE) : TE := fun σ H Q => ta σ H fun x H1 => Q (.bl (!decide (x = .non))) H1
theorem RelV.none_iff {x : V} {v : Value} (r : RelV x v) : (v == Value.none) = decide (x = .non) := by
  cases x with
  | non => cases r; rfl
  | bl _ => cases r; rfl
  | int _ => obtain ⟨t, rfl⟩ := r; rfl
  | str _ => obtain ⟨t, rfl⟩ := r; rfl
  | byt _ => obtain ⟨t, rfl⟩ := r; rfl
  | flt _ => obtain ⟨t, rfl⟩ := r; rfl
  | ref _ => cases r; rfl
  | ty _ => cases r; rfl
theorem pc_isN {j pos'} (ha : PE X a ta) : PC X .Is a (.Constant .none j pos') (tIsN ta) := by
  intro pins s σ H Q I h
  refine thn (ha pins s σ H _ I h) fun v s1 ⟨x, H1, I1, r1, q1⟩ => ?_
  exact Constant_none (is_none_gen ⟨.bl _, H1, I1, by rw [r1.none_iff]; rfl, q1⟩)
theorem pc_notN {j pos'} (ha : PE X a ta) : PC X .IsNot a (.Constant .none j pos') (tNotN ta) := by
  intro pins s σ H Q I h
  refine thn (ha pins s σ H _ I h) fun v s1 ⟨x, H1, I1, r1, q1⟩ => ?_
  exact Constant_none (isnot_none_gen ⟨.bl _, H1, I1, by rw [r1.none_iff]; rfl, q1⟩)
/-- a comparison as a value, as a test -/
def tB (t : TE) : TT := fun σ H Q => t σ H fun x H1 => ∃ c, x = .bl c ∧ Q c H1
theorem pt_cmp {op : CmpOp} {t : TE} (h : PC X op a b t) (h1 : behindInMarks op b = false := by first | exact nobehind _ (by decide) (by decide) | rfl) : PT X (.Compare a [op] [b] pos) (tB t) := by
  intro pins s σ H Q I hw
  refine wpAny_isTrue_Compare1 (thn (h pins s σ H _ I hw) fun v s1 h1 => thn h1 fun u s2 h2 => thn h2 fun c s3 ⟨x, H1, I1, r1, q1⟩ => ?_) h1
  obtain ⟨d, rfl, q⟩ := q1
  cases r1
  exact wpAny_truthy_bool ⟨H1, I1, q⟩
/-- an expression whose value is a bool, as a test -/
theorem pt_val {e : Expr} {t : TE} (h : PE X e t) (he : ∀ whole, isTrue e X.env whole = (do let v ← whole; standAt e.pos; holding [v] (truthy v)) := by intro _; rfl) : PT X e (tB t) := by
  intro pins s σ H Q I hw
  refine isTrue_plain (thn (h pins s σ H _ I hw) fun v s1 ⟨x, H1, I1, r1, q1⟩ => ?_) (he _)
  obtain ⟨d, rfl, q⟩ := q1
  cases r1
  exact wpAny_truthy_bool ⟨H1, I1, q⟩

/-! ### and, or, not -/
variable {tA tB' : TT} {rest : List Expr}
def tAnd (t u : TT) : TT := fun σ H Q => t σ H fun c H1 => if c = true then u σ H1 Q else Q false H1
def tOr (t u : TT) : TT := fun σ H Q => t σ H fun c H1 => if c = true then Q true H1 else u σ H1 Q
def tNot (t : TT) : TT := fun σ H Q => t σ H fun c H1 => Q (!c) H1
theorem pw_and1 (ha : PT X a tA) : PW X (.BoolOp .And [a] pos) tA := by
  intro wh pins s σ H Q I h
  refine isTrue_and (thn (ha pins s σ H Q I h) fun c s1 e => ?_)
  cases c with
  | true => exact isTrue_and_nil e
  | false => exact e
theorem pw_or1 (ha : PT X a tA) : PW X (.BoolOp .Or [a] pos) tA := by
  intro wh pins s σ H Q I h
  refine isTrue_or (thn (ha pins s σ H Q I h) fun c s1 e => ?_)
  cases c with
  | false => exact isTrue_or_nil e
  | true => exact e
theorem pw_and (ha : PT X a tA) (hb : PW X (.BoolOp .And (b :: rest) pos) tB') : PW X (.BoolOp .And (a :: b :: rest) pos) (tAnd tA tB') := by
  intro wh pins s σ H Q I h
  refine isTrue_and (thn (ha pins s σ H _ I h) fun c s1 ⟨H1, I1, q1⟩ => ?_)
  cases c with
  | true => exact hb wh pins s1 σ H1 Q I1 q1
  | false => exact ⟨H1, I1, q1⟩
theorem pw_or (ha : PT X a tA) (hb : PW X (.BoolOp .Or (b :: rest) pos) tB') : PW X (.BoolOp .Or (a :: b :: rest) pos) (tOr tA tB') := by
  intro wh pins s σ H Q I h
  refine isTrue_or (thn (ha pins s σ H _ I h) fun c s1 ⟨H1, I1, q1⟩ => ?_)
  cases c with
  | true => exact ⟨H1, I1, q1⟩
  | false => exact hb wh pins s1 σ H1 Q I1 q1
theorem pt_not (ha : PT X a tA) : PT X (.UnaryOp .Not a pos) (tNot tA) := by
  intro pins s σ H Q I h
  exact isTrue_not (ha pins s σ H (fun c H1 => Q (!c) H1) I h)
/-- .. as values (bools) -/
def tAndV (ta tb : TE) : TE := fun σ H Q => ta σ H fun x H1 => ∃ c, x = .bl c ∧ if c = true then tb σ H1 Q else Q (.bl false) H1
def tNotV (ta : TE) : TE := fun σ H Q => ta σ H fun x H1 => ∃ c, x = .bl c ∧ Q (.bl (!c)) H1
theorem pe_one {op} {t : TE} (h : PE X a t) : PE X (.BoolOp op [a] pos) t := fun pins s σ H Q I hw => BoolOp_one (h pins s σ H Q I hw)
theorem pe_and (ha : PE X a ta) (hb : PE X (.BoolOp .And (b :: rest) pos) tb) : PE X (.BoolOp .And (a :: b :: rest) pos) (tAndV ta tb) := by
  intro pins s σ H Q I h
  refine BoolOp_and (thn (ha pins s σ H _ I h) fun v s1 ⟨x, H1, I1, r1, q1⟩ => ?_)
  obtain ⟨c, rfl, q1⟩ := q1
  cases r1
  refine wpAny_truthy_bool ?_
  cases c with
  | true => exact hb pins s1 σ H1 Q I1 q1
  | false => exact ⟨.bl false, H1, I1, rfl, q1⟩
theorem pe_not (ha : PE X a ta) : PE X (.UnaryOp .Not a pos) (tNotV ta) := by
  intro pins s σ H Q I h
  refine UnaryOp_ (thn (ha pins s σ H _ I h) fun v s1 ⟨x, H1, I1, r1, q1⟩ => ?_)
  obtain ⟨c, rfl, q1⟩ := q1
  cases r1
  exact not_of (wpAny_truthy_bool ⟨.bl (!c), H1, I1, rfl, q1⟩)
/-- a if t else b -/
def tIf (t : TT) (ta tb : TE) : TE := fun σ H Q => t σ H fun c H1 => if c = true then ta σ H1 Q else tb σ H1 Q
theorem pe_ifExp {c : Expr} (hc : PT X c tA) (ha : PE X a ta) (hb : PE X b tb) : PE X (.IfExp c a b pos) (tIf tA ta tb) := by
  intro pins s σ H Q I h
  refine wpAny_IfExp (thn (hc pins s σ H _ I h) fun d s1 ⟨H1, I1, q1⟩ => ?_)
  cases d with
  | true => exact ha pins s1 σ H1 Q I1 q1
  | false => exact hb pins s1 σ H1 Q I1 q1
end
end L2

namespace L2
open PySem PySem.Spec PyProof.Rows

/-! ### a list, a tuple that is read: tracked, frozen, or an object of the module -/
def SqL (K : PySem.W.Frag) (H : Hp) (a : Addr) (xs : List V) : Prop :=
  Rd H a (.lst xs) ∨
    ∃ (o : Obj) (its : Array Value) (n : Nat), K.lookup a = some o ∧ o.cls = .type "list" ∧ o.dict = none ∧ o.data = .seq its n ∧ its.size ≤ sizeLine ∧ Vals xs its.toList
def SqT (K : PySem.W.Frag) (H : Hp) (a : Addr) (xs : List V) : Prop :=
  Rd H a (.tup xs) ∨
    ∃ (o : Obj) (its : Array Value) (n : Nat), K.lookup a = some o ∧ o.cls = .type "tuple" ∧ o.data = .seq its n ∧ its.size ≤ sizeLine ∧ Vals xs its.toList
def absV : Value → Option V
  | .none => some .non
  | .bool b => some (.bl b)
  | .int i _ => some (.int i)
  | .str x _ => some (.str x)
  | .bytes b _ => some (.byt b)
  | .float b _ => some (.flt b)
  | .ref a => some (.ref a)
  | .type n => some (.ty n)
  | _ => none
theorem RelV.abs {x : V} {u : Value} (r : RelV x u) : absV u = some x := by
  cases x with
  | non => cases r; rfl
  | bl _ => cases r; rfl
  | int _ => obtain ⟨t, rfl⟩ := r; rfl
  | str _ => obtain ⟨t, rfl⟩ := r; rfl
  | byt _ => obtain ⟨t, rfl⟩ := r; rfl
  | flt _ => obtain ⟨t, rfl⟩ := r; rfl
  | ref _ => cases r; rfl
  | ty _ => cases r; rfl
theorem RelV.inj {x y : V} {u : Value} (r : RelV x u) (q : RelV y u) : x = y := Option.some.inj (r.abs.symm.trans q.abs)
theorem Vals.inj : ∀ {xs ys : List V} {us : List Value}, Vals xs us → Vals ys us → xs = ys
  | _, _, _, .nil, .nil => rfl
  | _, _, _, .cons r t, .cons r' t' => by rw [r.inj r', Vals.inj t t']
section
variable {X : Cx} {pins : List (Addr × Obj)} {σ : St} {H : Hp} {s : Shared} {a : Addr} {xs ys : List V}
theorem SqL.of {K : PySem.W.Frag} (h : H a = some (.lst xs)) : SqL K H a xs := .inl (.inl h)
theorem SqT.of {K : PySem.W.Frag} (h : H a = some (.tup xs)) : SqT K H a xs := .inl (.inl h)
theorem Inv.list (I : Inv X pins σ H s) (h : SqL X.K H a xs) : ∃ its : List Value, Vals xs its ∧ PlainL s.heap a its.toArray ∧ xs.length ≤ sizeLine := by
  rcases h with h | ⟨o, its, n, hk, hc, hd, hs, hz, r⟩
  · obtain ⟨z, its, n, r, e⟩ := h.ok I.hok
    exact ⟨its, r, ⟨_, n, e, rfl, rfl, rfl⟩, z⟩
  · refine ⟨its.toList, r, ⟨o, n, I.kIn a o hk, hc, hd, by simpa using hs⟩, ?_⟩
    have e := r.length
    simp only [Array.length_toList] at e
    omega
theorem Inv.tuple (I : Inv X pins σ H s) (h : SqT X.K H a xs) : ∃ its : List Value, Vals xs its ∧ IsTup s.heap a its.toArray ∧ xs.length ≤ sizeLine := by
  rcases h with h | ⟨o, its, n, hk, hc, hs, hz, r⟩
  · obtain ⟨z, its, r, p⟩ := h.ok I.hok
    exact ⟨its, r, p, z⟩
  · refine ⟨its.toList, r, ⟨o, I.kIn a o hk, hc, n, by simpa using hs⟩, ?_⟩
    have e := r.length
    simp only [Array.length_toList] at e
    omega
theorem Inv.list_inj (I : Inv X pins σ H s) (h : SqL X.K H a xs) (h' : SqL X.K H a ys) : xs = ys := by
  obtain ⟨its, r, ⟨o, n, e, _, _, d⟩, _⟩ := I.list h
  obtain ⟨its', r', ⟨o', n', e', _, _, d'⟩, _⟩ := I.list h'
  rw [e] at e'; cases e'
  rw [d] at d'
  injection d' with d1 _
  have : its = its' := by simpa using congrArg Array.toList d1
  subst this
  exact r.inj r'
end

/-! ### another wish about exceptions -/
abbrev Cx.wish (X : Cx) (E : Value → Shared → Prop) : Cx := { X with xe := E }
/-- no exception leaves -/
abbrev Cx.nox (X : Cx) : Cx := X.wish fun _ _ => False
theorem Cx.Ok.wish {X : Cx} (ok : X.Ok) (E : Value → Shared → Prop) : (X.wish E).Ok :=
  ⟨ok.mod, ok.kind, ok.glob, ok.blt, ok.above, ok.inj, ok.has, ok.cab, ok.hd, ok.frames, ok.stk, ok.exf, ok.bs, ok.bsz, ok.noex, ok.exfs, ok.funs, ok.frf⟩
theorem Cx.Ok.unwish {X : Cx} {E : Value → Shared → Prop} (ok : (X.wish E).Ok) : X.Ok :=
  ⟨ok.mod, ok.kind, ok.glob, ok.blt, ok.above, ok.inj, ok.has, ok.cab, ok.hd, ok.frames, ok.stk, ok.exf, ok.bs, ok.bsz, ok.noex, ok.exfs, ok.funs, ok.frf⟩
section
variable {X : Cx} {pins : List (Addr × Obj)} {σ : St} {H : Hp} {s : Shared} {E : Value → Shared → Prop}
theorem Inv.wish (I : Inv X pins σ H s) (E : Value → Shared → Prop) : Inv (X.wish E) pins σ H s := ⟨I.ok.wish E, I.os, I.bare, I.base, I.loc, I.cell, I.free, I.freeC, I.pin, I.hok, I.len⟩
theorem Inv.unwish (I : Inv (X.wish E) pins σ H s) : Inv X pins σ H s := ⟨I.ok.unwish, I.os, I.bare, I.base, I.loc, I.cell, I.free, I.freeC, I.pin, I.hok, I.len⟩
theorem SP.unwish {D : Ends} {f : Flow} {s' : Shared} (h : SP (X.wish E) pins D f s') : SP X pins D f s' := by
  cases f with
  | next => obtain ⟨σ', H', I, q⟩ := h; exact ⟨σ', H', I.unwish, q⟩
  | brk => obtain ⟨σ', H', I, q⟩ := h; exact ⟨σ', H', I.unwish, q⟩
  | cont => obtain ⟨σ', H', I, q⟩ := h; exact ⟨σ', H', I.unwish, q⟩
  | ret u => obtain ⟨v, σ', H', I, r, q⟩ := h; exact ⟨v, σ', H', I.unwish, r, q⟩
theorem PSs.nox {st : List Stmt} {t : TS} (h : PSs X.nox st t) : PSs X st t := fun pins s σ H D I hw =>
  wpAny_mono (h pins s σ H D (I.wish _) hw) (fun _ _ q => q.unwish) fun _ _ z => False.elim z
end

/-! ### blocks and small statements -/
section
variable {X : Cx} {st : Stmt} {rest : List Stmt} {t u : TS} {e : Expr} {te : TE} {pos : Pos}
def tNext : TS := fun D σ H => D.nx σ H
def tSeq (t u : TS) : TS := fun D σ H => t { D with nx := u D } σ H
theorem pss_nil : PSs X [] tNext := fun _ _ σ H _ I h => wpAny_execs_nil ⟨σ, H, I, h⟩
theorem pss_cons (h1 : PS X st t) (h2 : PSs X rest u) : PSs X (st :: rest) (tSeq t u) := by
  intro pins s σ H D I h
  refine wpAny_execs_cons (thn (h1 pins s σ H { D with nx := u D } I h) fun f s1 q => ?_)
  cases f with
  | next =>
    obtain ⟨σ', H', I', q⟩ := q
    exact h2 pins s1 σ' H' D I' q
  | ret v => exact q
  | brk => exact q
  | cont => exact q
theorem pss_one (h1 : PS X st t) : PSs X [st] t := by
  intro pins s σ H D I h
  refine wpAny_execs_cons (thn (h1 pins s σ H D I h) fun f s1 q => ?_)
  cases f with
  | next => exact wpAny_execs_nil q
  | ret v => exact q
  | brk => exact q
  | cont => exact q
/-- in a def's body nothing is shown -/
theorem Inv.quiet {pins : List (Addr × Obj)} {σ : St} {H : Hp} {s : Shared} (I : Inv X pins σ H s) : interactive X.env = false := by simp [interactive, I.ok.kind]
/-- an expression whose value is dropped -/
def tDrop (te : TE) : TS := fun D σ H => te σ H fun _ H1 => D.nx σ H1
theorem ps_expr (he : PE X e te) (hs : swapsWith e none pos.line X.env = pure false := by rfl) : PS X (.Expr e pos) (tDrop te) := by
  intro pins s σ H D I h
  exact wpAny_Expr_any (thn (he pins s σ H _ I h) fun v s1 ⟨x, H1, I1, r1, q1⟩ => ⟨σ, H1, I1, q1⟩) I.quiet hs
def tRet (te : TE) : TS := fun D σ H => te σ H D.rt
theorem ps_ret (he : PE X e te) : PS X (.Return (some e) pos) (tRet te) := by
  intro pins s σ H D I h
  exact wpAny_Return_some (thn (he pins s σ H _ I h) fun v s1 ⟨x, H1, I1, r1, q1⟩ => ⟨x, σ, H1, I1, r1, q1⟩)
def tIfS (c : TT) (t u : TS) : TS := fun D σ H => c σ H fun b H1 => if b = true then t D σ H1 else u D σ H1
theorem ps_if {c : Expr} {a b : List Stmt} {tc : TT} (hc : PT X c tc) (ha : PSs X a t) (hb : PSs X b u) : PS X (.If c a b pos) (tIfS tc t u) := by
  intro pins s σ H D I h
  refine wpAny_If (thn (hc pins s σ H _ I h) fun d s1 ⟨H1, I1, q1⟩ => ?_)
  cases d with
  | true => exact ha pins s1 σ H1 D I1 q1
  | false => exact hb pins s1 σ H1 D I1 q1
end

/-! ### targets -/
abbrev TG := V → St → Hp → (St → Hp → Prop) → Prop
abbrev TGs := List V → St → Hp → (St → Hp → Prop) → Prop
def PG (X : Cx) (target : Expr) (t : TG) : Prop :=
  ∀ (pins : List (Addr × Obj)) (s : Shared) (σ : St) (H : Hp) (v : V) (u : Value) (Q : St → Hp → Prop), Inv X pins σ H s → RelV v u → t v σ H Q →
    wpAny (model X.prog X.w) X.A (assign target X.env u) (fun _ s' => ∃ σ' H', Inv X pins σ' H' s' ∧ Q σ' H') X.xe s
/-- several targets, one after another -/
def PGs (X : Cx) (ts : List Expr) (t : TGs) : Prop :=
  ∀ (pins : List (Addr × Obj)) (s : Shared) (σ : St) (H : Hp) (vs : List V) (us : List Value) (Q : St → Hp → Prop), Inv X pins σ H s → Vals vs us → t vs σ H Q →
    wpAny (model X.prog X.w) X.A (assignInOrder ((assignEach ts X.env).map (·.2)) us) (fun _ s' => ∃ σ' H', Inv X pins σ' H' s' ∧ Q σ' H') X.xe s
/-- o[i] = v, by values -/
abbrev TSet := V → V → V → Hp → (Hp → Prop) → Prop
def PSet (X : Cx) (t : TSet) : Prop :=
  ∀ (pins : List (Addr × Obj)) (s : Shared) (σ : St) (H : Hp) (o i v : V) (ov iv u : Value) (Q : Hp → Prop), Inv X pins σ H s → RelV o ov → RelV i iv → RelV v u → t o i v H Q →
    wpAny (model X.prog X.w) X.A (setItem ov iv u) (fun _ s' => ∃ H', Inv X pins σ H' s' ∧ Q H') X.xe s
/-- a op= b, by values -/
abbrev TIp := V → V → Hp → VK → Prop
def PIp (X : Cx) (op : Operator) (t : TIp) : Prop :=
  ∀ (pins : List (Addr × Obj)) (s : Shared) (σ : St) (H : Hp) (x y : V) (v u : Value) (Q : VK), Inv X pins σ H s → RelV x v → RelV y u → t x y H Q →
    wpAny (model X.prog X.w) X.A (inplaceOp op v u) (EP X pins σ Q) X.xe s
section
variable {X : Cx} {pos : Pos}
def gName (i : Nat) : TG := fun v σ H Q => Q (σ.set i (some v)) H
theorem pg_name {i : Nat} {x : Str} (hN : X.N.Nodup) (hi : X.N[i]? = some x) (hx : Loc X.env.scope x) (hf : X.fn x = true ∨ X.env.scope.names.lookup x = some .local := by first | exact .inl rfl | exact .inr rfl | assumption) : PG X (.Name x pos) (gName i) := by
  intro pins s σ H v u Q I r h
  exact wpAny_assign_Name (store_ok I hN hi hx r (fun s' I' => ⟨_, H, I', h⟩) hf)
def gNil : TGs := fun vs σ H Q => vs = [] ∧ Q σ H
def gCons (t : TG) (u : TGs) : TGs := fun vs σ H Q => ∃ v r, vs = v :: r ∧ t v σ H fun σ' H' => u r σ' H' Q
theorem pgs_nil : PGs X [] gNil := by
  intro pins s σ H vs us Q I r h
  obtain ⟨e, h⟩ := h
  subst e
  cases r
  exact assignInOrder_nil ⟨σ, H, I, h⟩
theorem pgs_cons {e : Expr} {es : List Expr} {t : TG} {u : TGs} (h1 : PG X e t) (h2 : PGs X es u)
    (hs : (assignEach (e :: es) X.env).map (·.2) = assign e X.env :: (assignEach es X.env).map (·.2) := by rfl) : PGs X (e :: es) (gCons t u) := by
  intro pins s σ H vs us Q I r h
  obtain ⟨v, vr, e1, h⟩ := h
  subst e1
  cases r with
  | cons r rr =>
    rw [hs]
    refine assignInOrder_cons (thn (h1 pins s σ H _ _ _ I r h) fun _ s1 ⟨σ1, H1, I1, q1⟩ => ?_)
    exact h2 pins s1 σ1 H1 _ _ Q I1 rr q1
/-- (a, b, ..) = a tuple of that length -/
def gTup (K : PySem.W.Frag) (n : Nat) (t : TGs) : TG := fun v σ H Q => ∃ a xs, v = .ref a ∧ SqT K H a xs ∧ xs.length = n ∧ t xs σ H Q
theorem pg_tup {es : List Expr} {k : Nat} {t : TGs} {n : Nat} (hc : X.calm = true) (h : PGs X es t)
    (hn : (assignEach es X.env).length = n := by rfl) (hst : (assignEach es X.env).findIdx? (·.1) = none := by rfl) : PG X (.Tuple es k pos) (gTup X.K n t) := by
  intro pins s σ H v u Q I r hw
  obtain ⟨a, xs, e1, hq, hl, hw⟩ := hw
  subst e1
  cases r
  obtain ⟨its, rv, ht, hz⟩ := I.tuple hq
  refine assign_Tuple_tuple (I.ok.hd hc) ht (by simp [hn, ← hl, rv.length]) hst fun h' hx => ?_
  have I1 : Inv X pins σ H { s with heap := h' } := I.kept (t' := s.toks) fun b o e => hx b o (Nat.ne_of_lt (Heap.lt_size e)) e
  exact h pins _ σ H xs _ Q I1 (by simpa using rv) hw
/-- o[i] = .. -/
def gSub (to ti : TE) (t : TSet) : TG := fun v σ H Q => to σ H fun o H1 => ti σ H1 fun i H2 => t o i v H2 fun H3 => Q σ H3
theorem pg_sub {o i : Expr} {to ti : TE} {t : TSet} (ho : PE X o to) (hi : PE X i ti) (hs : PSet X t)
    (ha : ∀ v, assign (.Subscript o i pos) X.env v = (do
      let ov ← holding [v] (eval o X.env)
      let iv ← holding [v, ov] (eval i X.env)
      standAt pos
      holding [v, ov, iv] (setItem ov iv v)
      release [v, ov, iv] []) := by intro _; rfl) : PG X (.Subscript o i pos) (gSub to ti t) := by
  intro pins s σ H v u Q I r h
  rw [ha]
  refine wpAny_bind (wpAny_holding (thn (ho pins s σ H _ I h) fun ov s1 ⟨x, H1, I1, r1, q1⟩ => ?_))
  refine wpAny_bind (wpAny_holding (thn (hi pins s1 σ H1 _ I1 q1) fun iv s2 ⟨y, H2, I2, r2, q2⟩ => ?_))
  refine wpAny_bind (wpAny_standAt (wpAny_bind (wpAny_holding (thn (hs pins s2 σ H2 x y v ov iv u _ I2 r1 r2 r q2) fun _ s3 ⟨H3, I3, q3⟩ => ?_))))
  exact wpAny_release ⟨σ, H3, I3, q3⟩
/-- target = value -/
def tAsg (te : TE) (g : TG) : TS := fun D σ H => te σ H fun x H1 => g x σ H1 D.nx
theorem ps_asg {tg e : Expr} {te : TE} {g : TG} (he : PE X e te) (hg : PG X tg g) (hs : swapsWithSole [tg] e pos.line X.env = pure false := by rfl) (hw : swappedStores [tg] e X.env = pure none := by rfl)
    (h1 : (assignEach [tg] X.env).map (·.2) = [assign tg X.env] := by rfl) : PS X (.Assign [tg] e pos) (tAsg te g) := by
  intro pins s σ H D I h
  refine wpAny_Assign_stores (thn (he pins s σ H _ I h) fun v s1 ⟨x, H1, I1, r1, q1⟩ => ?_) hs hw
  rw [h1]
  exact thn (hg pins s1 σ H1 x v _ I1 r1 q1) fun _ s2 q => q
/-- name = value -/
theorem ps_set {i : Nat} {x : Str} {e : Expr} {te : TE} {pos' : Pos} (hN : X.N.Nodup) (hi : X.N[i]? = some x) (hx : Loc X.env.scope x) (he : PE X e te) (hs : swapsWith e (some (.Name x pos')) pos.line X.env = pure false := by rfl) (hf : X.fn x = true ∨ X.env.scope.names.lookup x = some .local := by first | exact .inl rfl | exact .inr rfl | assumption) :
    PS X (.Assign [.Name x pos'] e pos) (tAsg te (gName i)) := by
  intro pins s σ H D I h
  refine wpAny_Assign_Name (thn (he pins s σ H _ I h) fun v s1 ⟨y, H1, I1, r1, q1⟩ => ?_) hs
  exact store_ok I1 hN hi hx r1 (fun s2 I2 => ⟨_, H1, I2, q1⟩) hf
/-- o[i] op= e -/
def tAugS (to ti te : TE) (tget : V → V → Hp → VK → Prop) (tip : TIp) (tset : TSet) : TS := fun D σ H => to σ H fun o H1 => ti σ H1 fun i H2 => tget o i H2 fun x H3 => te σ H3 fun y H4 => tip x y H4 fun z H5 => tset o i z H5 fun H6 => D.nx σ H6
/-- o[i], by values -/
def PGet (X : Cx) (t : V → V → Hp → VK → Prop) : Prop :=
  ∀ (pins : List (Addr × Obj)) (s : Shared) (σ : St) (H : Hp) (o i : V) (ov iv : Value) (Q : VK), Inv X pins σ H s → RelV o ov → RelV i iv → t o i H Q →
    wpAny (model X.prog X.w) X.A (getItem ov iv) (EP X pins σ Q) X.xe s
theorem ps_augS {o i e : Expr} {to ti te : TE} {tget : V → V → Hp → VK → Prop} {tip : TIp} {tset : TSet} {op : Operator} {tpos : Pos} (ho : PE X o to) (hi : PE X i ti) (hg : PGet X tget) (he : PE X e te) (hp : PIp X op tip) (hs : PSet X tset)
    (ha : ∀ ov iv new, augStore i ov iv new = (do holding [new, ov, iv] (setItem ov iv new); release [new, ov, iv] []; pure .next) := by intros; rfl) : PS X (.AugAssign (.Subscript o i tpos) op e pos) (tAugS to ti te tget tip tset) := by
  intro pins s σ H D I h
  refine wpAny_AugAssign_SubscriptAny (thn (ho pins s σ H _ I h) fun ov s1 ⟨x1, H1, I1, r1, q1⟩ => ?_) ha
  refine thn (hi pins s1 σ H1 _ I1 q1) fun iv s2 ⟨x2, H2, I2, r2, q2⟩ => ?_
  refine thn (hg pins s2 σ H2 x1 x2 ov iv _ I2 r1 r2 q2) fun old s3 ⟨x3, H3, I3, r3, q3⟩ => ?_
  refine thn (he pins s3 σ H3 _ I3 q3) fun v s4 ⟨x4, H4, I4, r4, q4⟩ => ?_
  refine thn (hp pins s4 σ H4 x3 x4 old v _ I4 r3 r4 q4) fun new s5 ⟨x5, H5, I5, r5, q5⟩ => ?_
  exact thn (hs pins s5 σ H5 x1 x2 x5 ov iv new _ I5 r1 r2 r5 q5) fun _ s6 ⟨H6, I6, q6⟩ => ⟨σ, H6, I6, q6⟩
/-- ints -/
def ipI (f : Int → Int → Int) : TIp := fun x y H Q => ∃ i j, x = .int i ∧ y = .int j ∧ Q (.int (f i j)) H
theorem ip_sub : PIp X .Sub (ipI fun i j => i - j) := by
  intro pins s σ H x y v u Q I r1 r2 h
  obtain ⟨i, j, e1, e2, q⟩ := h
  subst e1; subst e2
  obtain ⟨t, rfl⟩ := r1
  obtain ⟨t', rfl⟩ := r2
  exact isub_int ⟨.int _, H, I.tok _, ⟨_, rfl⟩, q⟩
end

/-! ### while -/
section
variable {X : Cx} {pos : Pos}
/-- the invariant W with its measure -/
def tWhile (c : TT) (tb : TS) : TS := fun D σ H => ∃ W : Nat → St → Hp → Prop, (∃ m, W m σ H) ∧ ∀ m σ H, W m σ H →
  c σ H fun b H1 => if b = true then ∃ N : St → Hp → Prop, (∀ σ' H', N σ' H' → ∃ m', m' < m ∧ W m' σ' H') ∧ tb { D with nx := N, ct := N, bk := D.nx } σ H1 else D.nx σ H1
theorem ps_while {c : Expr} {body : List Stmt} {tc : TT} {tb : TS} (hp : PassesOwn (model X.prog X.w) X.A X.env X.xe) (hc : PT X c tc) (hb : PSs X body tb) : PS X (.While c body [] pos) (tWhile tc tb) := by
  intro pins s σ H D I h
  obtain ⟨W, ⟨m0, w0⟩, turn⟩ := h
  refine wpAny_While (codeAny_whileLoop (fun n s' => ∃ σ' H', Inv X pins σ' H' s' ∧ W n σ' H') ?_ m0 ⟨σ, H, I, w0⟩)
  rintro n s1 ⟨σ1, H1, I1, w1⟩
  refine wpAny_passesOwn hp (thn (hc pins s1 σ1 H1 _ I1 (turn n σ1 H1 w1)) fun b s2 ⟨H2, I2, q2⟩ => ?_)
  cases b with
  | true =>
    obtain ⟨N, hN, q2⟩ := q2
    rw [if_pos rfl]
    refine wpAny_passesOwn hp (thn (hb pins s2 σ1 H2 _ I2 q2) fun f s3 q3 => ?_)
    cases f with
    | next =>
      obtain ⟨σ3, H3, I3, n3⟩ := q3
      obtain ⟨m', hm, w3⟩ := hN σ3 H3 n3
      exact ⟨m', hm, σ3, H3, I3, w3⟩
    | cont =>
      obtain ⟨σ3, H3, I3, n3⟩ := q3
      obtain ⟨m', hm, w3⟩ := hN σ3 H3 n3
      exact ⟨m', hm, σ3, H3, I3, w3⟩
    | brk => exact q3
    | ret v => exact q3
  | false =>
    rw [if_neg Bool.false_ne_true]
    exact wpAny_execs_nil ⟨σ1, H2, I2, q2⟩
end

/-! ### what a loop or a comprehension walks -/
/-- at turn i: it yields x (the heap may grow), or it stops -/
structure It where
  go : Nat → Hp → Prop
  yld : Nat → Hp → V → Hp → Prop
  stop : Nat → Hp → Prop
/-- the iterator's own objects may turn: they are not the frame's, not pinned, younger than the entry (or a comprehension's own) -/
def FpOk (X : Cx) (pins : List (Addr × Obj)) (H : Hp) (b : Addr) : Prop :=
  H b = none ∧ b ≠ X.env.locals ∧ b ∉ X.fs ∧ (b ∈ X.ex ∨ X.s₀.heap.objs.size ≤ b) ∧ (∀ x c, X.env.cells.lookup x = some c → c ≠ b) ∧ ∀ p ∈ X.pn ++ pins, p.1 ≠ b
theorem Inv.fpOk {X : Cx} {pins : List (Addr × Obj)} {σ : St} {H H' : Hp} {s : Shared} {b : Addr} (I : Inv X pins σ H s) (hb : s.heap.objs.size ≤ b) (hn : H' b = none) : FpOk X pins H' b := by
  refine ⟨hn, Nat.ne_of_gt (Nat.lt_of_lt_of_le I.lt hb), I.nofs hb, .inr (Nat.le_trans I.sz hb), fun x c e z => ?_, fun p hp z => ?_⟩
  · obtain ⟨v, q⟩ := I.cell x c e
    exact absurd (Nat.lt_of_lt_of_le q.lt (by rw [z]; exact hb)) (Nat.lt_irrefl _)
  · exact absurd (Nat.lt_of_lt_of_le (Heap.lt_size (I.pin p hp).1) (by rw [z]; exact hb)) (Nat.lt_irrefl _)
structure Turn (P : Program) (w : World) (K : PySem.W.Frag) (tg : Expr) (J : It) (fp : List Addr) (it : Addr) (tn : Nat → Heap → Prop) : Prop where
  mem : it ∈ fp
  obj : ∀ i h, tn i h → ∀ b ∈ fp, ∃ o, h.get? b = some o ∧ ∀ v, o.data ≠ .cell v
  keep : ∀ i h h', tn i h → (∀ b ∈ fp, ∀ o, h.get? b = some o → h'.get? b = some o) → tn i h'
  item : ∀ (X : Cx), X.prog = P → X.w = w → X.K = K → X.calm = true → ∀ (i : Nat) (pins : List (Addr × Obj)) (s : Shared) (σ : St) (H : Hp) (E : Value → Shared → Prop), Inv X pins σ H s → (∀ b ∈ fp, FpOk X pins H b) → tn i s.heap → J.go i H →
    wpAny (model P w) X.A (pyNext (.ref it)) (fun r s1 => ∃ u, r = some u ∧
      wpAny (model P w) X.A (letOwnedTupleGo tg (.ref it) u) (fun _ s2 => ∃ x H', Inv X pins σ H' s2 ∧ RelV x u ∧ J.yld i H x H' ∧ tn (i + 1) s2.heap ∧ ∀ b ∈ fp, H' b = none) E s1) E s
  done : ∀ (X : Cx), X.prog = P → X.w = w → X.K = K → X.calm = true → ∀ (i : Nat) (pins : List (Addr × Obj)) (s : Shared) (σ : St) (H : Hp) (E : Value → Shared → Prop), Inv X pins σ H s → (∀ b ∈ fp, FpOk X pins H b) → tn i s.heap → J.stop i H →
    wpAny (model P w) X.A (pyNext (.ref it)) (fun r s1 => r = none ∧ Inv X pins σ H s1) E s
  self : ∀ (A : Around) (i : Nat) (s : Shared) (Q : Value → Shared → Prop) (E : Value → Shared → Prop), tn i s.heap → Q (.ref it) s → wpAny (model P w) A (pyIter (.ref it)) Q E s
abbrev TI := St → Hp → (It → Hp → Prop) → Prop
/-- an iterator has come -/
def PIE (X : Cx) (pins : List (Addr × Obj)) (σ : St) (tg : Expr) (R : It → Hp → Prop) (itv : Value) (s2 : Shared) : Prop :=
  ∃ (it : Addr) (fp : List Addr) (tn : Nat → Heap → Prop) (J : It) (H' : Hp), itv = .ref it ∧ Inv X pins σ H' s2 ∧ Turn X.prog X.w X.K tg J fp it tn ∧ tn 0 s2.heap ∧ (∀ b ∈ fp, FpOk X pins H' b) ∧ R J H'
def PI (X : Cx) (tg iter : Expr) (wi : TI) : Prop :=
  ∀ (pins : List (Addr × Obj)) (s : Shared) (σ : St) (H : Hp) (R : It → Hp → Prop), Inv X pins σ H s → wi σ H R →
    wpAny (model X.prog X.w) X.A (eval iter X.env) (fun v s1 => wpAny (model X.prog X.w) X.A (pyIter v) (PIE X pins σ tg R) X.xe s1) X.xe s

/-- the step ahead of the store is nothing for an iterator that keeps no tuple -/
theorem go_of {M : Model} {A : Around} {E : Value → Shared → Prop} {s : Shared} {tg : Expr} {it : Addr} {u : Value} {o : Obj} {n : String} {vs : Array Value} {Q : Unit → Shared → Prop} (ho : s.heap.get? it = some o) (hc : o.cls = .type n) (hd : o.data = .fields vs)
    (hn : ["enumerate", "zip", "dict_itemiterator", "dict_reverseitemiterator", "odict_iterator", "itertools.zip_longest", "itertools.pairwise"].contains n = false) (hQ : Q () s) : wpAny M A (letOwnedTupleGo tg (.ref it) u) Q E s := by
  unfold letOwnedTupleGo
  cases tg <;> first
    | exact wpAny_pure hQ
    | (cases u <;> first
        | exact wpAny_pure hQ
        | (refine wpAny_bind (wpAny_load ho ?_)
           rw [hc, hd]
           show wpAny M A (if (["enumerate", "zip", "dict_itemiterator", "dict_reverseitemiterator", "odict_iterator", "itertools.zip_longest", "itertools.pairwise"].contains n && vs[0]? == some (rawInt _)) = true then _ else _) Q E s
           rw [if_neg (by intro h; rw [hn, Bool.false_and] at h; cases h)]
           exact wpAny_pure hQ))

/-- the list at a, as it stands at each turn (a loop may append to it) -/
def Itl (K : PySem.W.Frag) (a : Addr) : It :=
  ⟨fun i H => ∃ xs x, SqL K H a xs ∧ xs[i]? = some x, fun i H x H' => H' = H ∧ ∀ xs, SqL K H a xs → xs[i]? = some x, fun i H => ∃ xs, SqL K H a xs ∧ xs.length ≤ i⟩
/-- lo, lo + 1, .. (n of them) -/
def Itr (lo : Int) (n : Nat) : It := ⟨fun i _ => i < n, fun i H x H' => H' = H ∧ x = .int (lo + i), fun i _ => n ≤ i⟩
theorem turn_list {P : Program} {w : World} {K : PySem.W.Frag} {tg : Expr} (a it : Addr) : Turn P w K tg (Itl K a) [it] it (fun i h => h.IsListIter it a i) where
  mem := by simp
  obj := fun i h st b hb => by
    have e : b = it := by simpa using hb
    subst e
    obtain ⟨o, e, c, d⟩ := st
    exact ⟨o, e, fun v z => by rw [d] at z; cases z⟩
  keep := fun i h h' st k => st.at fun o e => k it (by simp) o e
  item := by
    intro X hP hw hK hc i pins s σ H E I hf st hg
    subst hP hw hK
    obtain ⟨xs, x, hq, hx⟩ := hg
    obtain ⟨its, rv, p, hz⟩ := I.list hq
    obtain ⟨u, hu, ru⟩ := rv.get hx
    obtain ⟨f0, f1, f2, f3, f4, f5⟩ := hf it (by simp)
    refine wpAny_pyNext_list_item st p.isList (x := u) (by simpa using hu) fun h' st' sb => ?_
    have I1 : Inv X pins σ H { s with heap := h' } := I.turned (t' := s.toks) (fun b o hb e => (sb.2 b hb).trans e) f0 f1 f3 f4 f5
    obtain ⟨o, e, c, d⟩ := id st'
    exact ⟨u, rfl, go_of (s := { s with heap := h' }) e c d (by decide) ⟨x, H, I1, ru, ⟨rfl, fun ys hy => by rw [I.list_inj hy hq]; exact hx⟩, st', fun b hb => (hf b hb).1⟩⟩
  done := by
    intro X hP hw hK hc i pins s σ H E I hf st hg
    subst hP hw hK
    obtain ⟨xs, hq, hx⟩ := hg
    obtain ⟨its, rv, p, hz⟩ := I.list hq
    obtain ⟨f0, f1, f2, f3, f4, f5⟩ := hf it (by simp)
    have hl := rv.length
    exact wpAny_pyNext_list_end (I.ok.hd hc) st p.isList (by simp; omega) fun h' eb => ⟨rfl, I.turned (t' := s.toks) (fun b o hb e => eb b o hb e) f0 f1 f3 f4 f5⟩
  self := fun _ _ _ _ _ st h => wpAny_pyIter_listiter st h
theorem turn_range {P : Program} {w : World} {K : PySem.W.Frag} {tg : Expr} (it : Addr) (lo : Int) (n : Nat) : Turn P w K tg (Itr lo n) [it] it (fun i h => IsRangeIter h it (lo + (i : Nat) * 1) ((n : Int) - (i : Nat)) 1) where
  mem := by simp
  obj := fun i h st b hb => by
    have e : b = it := by simpa using hb
    subst e
    exact ⟨_, st, fun v z => by
      have z' : Data.fields _ = Data.cell v := z
      cases z'⟩
  keep := fun i h h' st k => k it (by simp) _ st
  item := by
    intro X hP hw hK hc i pins s σ H E I hf st hg
    subst hP hw hK
    obtain ⟨f0, f1, f2, f3, f4, f5⟩ := hf it (by simp)
    have W := Walks.range (prog := X.prog) (w := X.w) (I.ok.hd hc) it lo 1 n
    refine W.item i s _ _ hg st fun v h' tk hv st' kk => ?_
    obtain ⟨t, rfl⟩ := hv
    have I1 : Inv X pins σ H { s with heap := h', toks := tk } := I.turned (fun b o hb e => kk b o (by simpa using hb) e) f0 f1 f3 f4 f5
    refine ⟨_, rfl, go_of (s := { s with heap := h', toks := tk }) (n := "range_iterator") st' rfl rfl (by decide) ⟨.int (lo + i), H, I1, ⟨t, ?_⟩, ⟨rfl, rfl⟩, st', fun b hb => (hf b hb).1⟩⟩
    rw [Int.mul_one]
  done := by
    intro X hP hw hK hc i pins s σ H E I hf st hg
    subst hP hw hK
    obtain ⟨f0, f1, f2, f3, f4, f5⟩ := hf it (by simp)
    exact wpAny_pyNext_range_end (I.ok.hd hc) st (by have : n ≤ i := hg; omega) fun h' eb => ⟨rfl, I.turned (t' := s.toks) (fun b o hb e => eb b o hb e) f0 f1 f3 f4 f5⟩
  self := fun _ _ _ _ _ st h => wpAny_pyIter_rangeiter st h
end L2

namespace L2
open PySem PySem.Spec PyProof.Rows
section
variable {X : Cx} {tg : Expr}
def iList (K : PySem.W.Frag) (tl : TE) : TI := fun σ H R => tl σ H fun x H1 => ∃ a, x = .ref a ∧ (∃ xs, SqL K H1 a xs) ∧ R (Itl K a) H1
theorem pi_list {l : Expr} {tl : TE} (hl : PE X l tl) : PI X tg l (iList X.K tl) := by
  intro pins s σ H R I h
  refine thn (hl pins s σ H _ I h) fun v s1 ⟨x, H1, I1, r1, q1⟩ => ?_
  obtain ⟨a, e, ⟨xs, hq⟩, q⟩ := q1
  subst e
  cases r1
  obtain ⟨its, rv, p, hz⟩ := I1.list hq
  refine wpAny_pyIter_list p.isList ?_
  refine ⟨s1.heap.objs.size, [s1.heap.objs.size], _, _, H1, rfl, I1.kept (t' := s1.toks) fun b o e => Heap.get?_push_of_some _ e, turn_list a _, ⟨_, Heap.get?_push_size _ rfl, rfl, rfl⟩, fun b hb => ?_, q⟩
  have e : b = s1.heap.objs.size := by simpa using hb
  subst e
  exact I1.fpOk (Nat.le_refl _) (I1.hok.fresh (Nat.le_refl _))
/-- a range object just made, walked -/
theorem range_it {pins : List (Addr × Obj)} {σ : St} {H : Hp} {s : Shared} {R : It → Hp → Prop} {E : Value → Shared → Prop} {lo hi : Int} {t u v : Tok} {tk : Nat} (I : Inv X pins σ H s) (h1 : -(2 ^ 62) ≤ lo) (h2 : lo < 2 ^ 62) (h3 : -(2 ^ 62) ≤ hi) (h4 : hi < 2 ^ 62)
    (q : R (Itr lo (hi - lo).toNat) H) : wpAny (model X.prog X.w) X.A (pyIter (.ref s.heap.objs.size)) (PIE X pins σ tg R) E { s with heap := s.heap.push { cls := .type "range", data := .fields #[.int lo t, .int hi u, .int 1 v] }, toks := tk } := by
  refine wpAny_pyIter_range (IsRange.new ..) (small_one h1 h2 h3 h4) ?_
  have I1 : Inv X pins σ H { s with heap := s.heap.push { cls := .type "range", data := .fields #[.int lo t, .int hi u, .int 1 v] }, toks := tk } := I.kept fun b o e => Heap.get?_push_of_some _ e
  refine ⟨(s.heap.push { cls := .type "range", data := .fields #[.int lo t, .int hi u, .int 1 v] }).objs.size, [(s.heap.push { cls := .type "range", data := .fields #[.int lo t, .int hi u, .int 1 v] }).objs.size], _, _, H, rfl,
    I1.kept (t' := tk) fun b o e => Heap.get?_push_of_some _ e, turn_range _ lo (hi - lo).toNat, ?_, fun b hb => ?_, q⟩
  · have e1 : lo + ((0 : Nat) : Int) * 1 = lo := by simp
    have e2 : (((hi - lo).toNat : Nat) : Int) - ((0 : Nat) : Int) = Builtin.Range.rangeSize lo hi 1 := by rw [rangeSize_one]; split <;> omega
    show IsRangeIter _ _ (lo + ((0 : Nat) : Int) * 1) ((((hi - lo).toNat : Nat) : Int) - ((0 : Nat) : Int)) 1
    rw [e1, e2]
    exact Heap.get?_push_size _ rfl
  · have e : b = (s.heap.push { cls := .type "range", data := .fields #[.int lo t, .int hi u, .int 1 v] }).objs.size := by simpa using hb
    subst e
    exact I1.fpOk (Nat.le_refl _) (I1.hok.fresh (Nat.le_refl _))
def iRng1 (ta : TA) : TI := fun σ H R => ta σ H fun vs H1 => ∃ j : Int, vs = [.int j] ∧ -(2 ^ 62) ≤ j ∧ j < 2 ^ 62 ∧ R (Itr 0 j.toNat) H1
theorem pi_range1 {a : Expr} {ta : TA} {p pos : Pos} (hg : Gl X "range") (hm : X.mg "range" = none) (ha : PA X [a] ta) (hs : starEach [a] X.env = [(false, eval a X.env)] := by rfl) : PI X tg (.Call (.Name "range" p) [a] [] pos) (iRng1 ta) := by
  intro pins s σ H R I h
  refine Call_ (ld_blt I hg hm boot_range (PyProof.Rows.callWith_type1 (thn (ha pos pins s σ H _ I h) fun us s1 ⟨vs, H1, I1, r1, q1⟩ => ?_) hs rfl))
  obtain ⟨j, e, q1, q2, q⟩ := q1
  subst e
  cases r1 with
  | cons r rr =>
    cases rr
    obtain ⟨t, rfl⟩ := r
    exact call_range_1 (range_it I1 (by omega) (by omega) q1 q2 (by simpa using q))

/-! ### for -/
/-- W: the invariant by the turn and a measure; N: what the body is to reach -/
def tFor (wi : TI) (g : TG) (tb : TS) : TS := fun D σ H => wi σ H fun J H1 => ∃ W : Nat → Nat → St → Hp → Prop, (∃ m, W 0 m σ H1) ∧ ∀ i m σ H, W i m σ H →
  (J.stop i H ∧ D.nx σ H) ∨ (J.go i H ∧ ∃ N : St → Hp → Prop, (∀ σ' H', N σ' H' → ∃ m', m' < m ∧ W (i + 1) m' σ' H') ∧ ∀ x H', J.yld i H x H' → g x σ H' fun σ2 H2 => tb { D with nx := N, ct := N, bk := D.nx } σ2 H2)
/-- the records at fp as they stand -/
def pinsAt (fp : List Addr) (h : Heap) : List (Addr × Obj) := fp.filterMap fun b => (h.get? b).map fun o => (b, o)
theorem mem_pinsAt {fp : List Addr} {h : Heap} {b : Addr} {o : Obj} (hb : b ∈ fp) (e : h.get? b = some o) : (b, o) ∈ pinsAt fp h := List.mem_filterMap.mpr ⟨b, hb, by rw [e]; rfl⟩
theorem of_pinsAt {fp : List Addr} {h : Heap} {p : Addr × Obj} (hp : p ∈ pinsAt fp h) : p.1 ∈ fp ∧ h.get? p.1 = some p.2 := by
  obtain ⟨b, hb, e⟩ := List.mem_filterMap.mp hp
  cases q : h.get? b with
  | none => rw [q] at e; cases e
  | some o =>
    rw [q] at e
    have e' : (b, o) = p := Option.some.inj e
    subst e'
    exact ⟨hb, q⟩
theorem Inv.pinned {pins : List (Addr × Obj)} {σ : St} {H : Hp} {s : Shared} {fp : List Addr} (I : Inv X pins σ H s) (hf : ∀ b ∈ fp, FpOk X pins H b) (ho : ∀ b ∈ fp, ∃ o, s.heap.get? b = some o ∧ ∀ v, o.data ≠ .cell v) : Inv X (pins ++ pinsAt fp s.heap) σ H s :=
  I.pins_of fun p hp => (List.mem_append.mp hp).elim (fun z => I.pin p (List.mem_append_right _ z)) fun z => by
    obtain ⟨hb, e⟩ := of_pinsAt z
    obtain ⟨f0, f1, f2, _⟩ := hf p.1 hb
    obtain ⟨o, e', d⟩ := ho p.1 hb
    rw [e] at e'; cases e'
    exact ⟨e, f0, f1, f2, d⟩
theorem Inv.unpinned {pins pl : List (Addr × Obj)} {σ : St} {H : Hp} {s : Shared} (I : Inv X (pins ++ pl) σ H s) : Inv X pins σ H s := I.pins_of fun p hp => I.pin p (List.mem_append_right _ (List.mem_append_left _ hp))
theorem ps_for {iter : Expr} {body : List Stmt} {wi : TI} {g : TG} {tb : TS} {pos : Pos} (hp : PassesOwn (model X.prog X.w) X.A X.env X.xe) (hc : X.calm = true) (hi : PI X tg iter wi) (hg : PG X tg g) (hb : PSs X body tb)
    (hs : ∀ x, foldedSetIterable iter X.env x = pure x := by intro _; rfl) : PS X (.For tg iter body [] pos) (tFor wi g tb) := by
  intro pins s σ H D I h
  refine wpAny_For (thn (hi pins s σ H _ I h) fun v s1 h1 => thn h1 fun itv s2 h2 => ?_) hs
  obtain ⟨it, fp, tn, J, H2, e, I2, T, st2, f2, W, ⟨m0, w0⟩, turn⟩ := h2
  subst e
  -- what stays true of the iterator's objects through the loop
  have stat : ∀ {H' : Hp}, (∀ b ∈ fp, H' b = none) → ∀ b ∈ fp, FpOk X pins H' b := fun hn b hb => ⟨hn b hb, (f2 b hb).2⟩
  refine codeAny_forLoop_any (fun n s' => ∃ i σ' H', Inv X pins σ' H' s' ∧ tn i s'.heap ∧ (∀ b ∈ fp, H' b = none) ∧ W i n σ' H') ?_ m0 ⟨0, σ, H2, I2, st2, fun b hb => (f2 b hb).1, w0⟩
  rintro n s3 ⟨i, σ3, H3, I3, st3, fr3, w3⟩
  rcases turn i n σ3 H3 w3 with ⟨stop, qn⟩ | ⟨go, N, hN, step⟩
  · refine wpAny_passesOwn hp (thn (T.done X rfl rfl rfl hc i pins s3 σ3 H3 X.xe I3 (stat fr3) st3 stop) fun r s4 ⟨hr, I4⟩ => ?_)
    subst hr
    exact wpAny_execs_nil ⟨σ3, H3, I4, qn⟩
  · refine wpAny_passesOwn hp (thn (T.item X rfl rfl rfl hc i pins s3 σ3 H3 X.xe I3 (stat fr3) st3 go) fun r s4 ⟨u, hr, h4⟩ => ?_)
    subst hr
    refine wpAny_passesOwn hp (thn h4 fun _ s5 ⟨x, H5, I5, r5, y5, st5, fr5⟩ => ?_)
    have I5' := I5.pinned (stat fr5) (T.obj _ _ st5)
    refine wpAny_passesOwn hp (thn (hg _ s5 σ3 H5 x u _ I5' r5 (step x H5 y5)) fun _ s6 ⟨σ6, H6, I6, q6⟩ => ?_)
    refine wpAny_passesOwn hp (thn (hb _ s6 σ6 H6 _ I6 q6) fun f s7 q7 => ?_)
    have again : ∀ {σ7 : St} {H7 : Hp}, Inv X (pins ++ pinsAt fp s5.heap) σ7 H7 s7 → N σ7 H7 → ∃ m, m < n ∧ ∃ i σ' H', Inv X pins σ' H' s7 ∧ tn i s7.heap ∧ (∀ b ∈ fp, H' b = none) ∧ W i m σ' H' := fun {σ7 H7} I7 n7 => by
      obtain ⟨m', hm, w7⟩ := hN σ7 H7 n7
      refine ⟨m', hm, i + 1, σ7, H7, I7.unpinned, T.keep _ _ _ st5 fun b hb o e => (I7.pin (b, o) (List.mem_append_right _ (List.mem_append_right _ (mem_pinsAt hb e)))).1, fun b hb => ?_, w7⟩
      obtain ⟨o, e, d⟩ := T.obj _ _ st5 b hb
      exact (I7.pin (b, o) (List.mem_append_right _ (List.mem_append_right _ (mem_pinsAt hb e)))).2.1
    cases f with
    | next => obtain ⟨σ7, H7, I7, n7⟩ := q7; exact again I7 n7
    | cont => obtain ⟨σ7, H7, I7, n7⟩ := q7; exact again I7 n7
    | brk => obtain ⟨σ7, H7, I7, q7⟩ := q7; exact ⟨σ7, H7, I7.unpinned, q7⟩
    | ret v => obtain ⟨x7, σ7, H7, I7, r7, q7⟩ := q7; exact ⟨x7, σ7, H7, I7.unpinned, r7, q7⟩
end

/-! ### the forms one uses -/
/-- over a list that the body leaves as it is -/
theorem for_list {K : PySem.W.Frag} {a : Addr} {xs : List V} {g : TG} {tb : TS} {D : Ends} {σ : St} {H : Hp} (Pv : Nat → St → Hp → Prop) (h0 : Pv 0 σ H) (hl : ∀ i σ H, i ≤ xs.length → Pv i σ H → SqL K H a xs)
    (hs : ∀ i x σ H, xs[i]? = some x → Pv i σ H → g x σ H fun σ2 H2 => tb { D with nx := Pv (i + 1), ct := Pv (i + 1), bk := D.nx } σ2 H2) (hd : ∀ σ H, Pv xs.length σ H → D.nx σ H) :
    ∃ W : Nat → Nat → St → Hp → Prop, (∃ m, W 0 m σ H) ∧ ∀ i m σ H, W i m σ H →
      ((Itl K a).stop i H ∧ D.nx σ H) ∨ ((Itl K a).go i H ∧ ∃ N : St → Hp → Prop, (∀ σ' H', N σ' H' → ∃ m', m' < m ∧ W (i + 1) m' σ' H') ∧ ∀ x H', (Itl K a).yld i H x H' → g x σ H' fun σ2 H2 => tb { D with nx := N, ct := N, bk := D.nx } σ2 H2) := by
  refine ⟨fun i m σ H => m = xs.length - i ∧ i ≤ xs.length ∧ Pv i σ H, ⟨xs.length, by simp, Nat.zero_le _, h0⟩, ?_⟩
  rintro i m σ H ⟨rfl, hi, p⟩
  have q := hl i σ H hi p
  by_cases hlt : i < xs.length
  · refine .inr ⟨⟨xs, xs[i], q, by simp [hlt]⟩, Pv (i + 1), fun σ' H' p' => ⟨xs.length - (i + 1), by omega, rfl, hlt, p'⟩, fun x H' y => ?_⟩
    obtain ⟨e, y⟩ := y
    subst e
    exact hs i x σ _ (y xs q) p
  · have e : i = xs.length := by omega
    subst e
    exact .inl ⟨⟨xs, q, Nat.le_refl _⟩, hd σ H p⟩
theorem for_range {lo : Int} {n : Nat} {g : TG} {tb : TS} {D : Ends} {σ : St} {H : Hp} (Pv : Nat → St → Hp → Prop) (h0 : Pv 0 σ H)
    (hs : ∀ i σ H, i < n → Pv i σ H → g (.int (lo + i)) σ H fun σ2 H2 => tb { D with nx := Pv (i + 1), ct := Pv (i + 1), bk := D.nx } σ2 H2) (hd : ∀ σ H, Pv n σ H → D.nx σ H) :
    ∃ W : Nat → Nat → St → Hp → Prop, (∃ m, W 0 m σ H) ∧ ∀ i m σ H, W i m σ H →
      ((Itr lo n).stop i H ∧ D.nx σ H) ∨ ((Itr lo n).go i H ∧ ∃ N : St → Hp → Prop, (∀ σ' H', N σ' H' → ∃ m', m' < m ∧ W (i + 1) m' σ' H') ∧ ∀ x H', (Itr lo n).yld i H x H' → g x σ H' fun σ2 H2 => tb { D with nx := N, ct := N, bk := D.nx } σ2 H2) := by
  refine ⟨fun i m σ H => m = n - i ∧ i ≤ n ∧ Pv i σ H, ⟨n, by simp, Nat.zero_le _, h0⟩, ?_⟩
  rintro i m σ H ⟨rfl, hi, p⟩
  by_cases hlt : i < n
  · refine .inr ⟨hlt, Pv (i + 1), fun σ' H' p' => ⟨n - (i + 1), by omega, rfl, hlt, p'⟩, fun x H' y => ?_⟩
    obtain ⟨e, y⟩ := y
    subst e y
    exact hs i σ _ hlt p
  · have e : i = n := by omega
    subst e
    exact .inl ⟨Nat.le_refl _, hd σ H p⟩
end L2

namespace L2
open PySem PySem.Spec PyProof.Rows

abbrev R2 := V → V → Hp → VK → Prop
/-- a two-place operation on values: f is binaryOp op, inplaceOp op or compareOp op -/
def OpR (X : Cx) (f : Value → Value → Sem Value) (r : R2) : Prop :=
  ∀ (pins : List (Addr × Obj)) (s : Shared) (σ : St) (H : Hp) (x y : V) (v u : Value) (Q : VK), Inv X pins σ H s → RelV x v → RelV y u → r x y H Q →
    wpAny (model X.prog X.w) X.A (f v u) (EP X pins σ Q) X.xe s
/-- a one-place operation -/
def UnR (X : Cx) (f : Value → Sem Value) (r : V → Hp → VK → Prop) : Prop :=
  ∀ (pins : List (Addr × Obj)) (s : Shared) (σ : St) (H : Hp) (x : V) (v : Value) (Q : VK), Inv X pins σ H s → RelV x v → r x H Q →
    wpAny (model X.prog X.w) X.A (f v) (EP X pins σ Q) X.xe s
/-- a call of a value that is known (a builtin, a type) with values -/
def CallR (X : Cx) (f : Value) (r : List V → Hp → VK → Prop) : Prop :=
  ∀ (pins : List (Addr × Obj)) (s : Shared) (σ : St) (H : Hp) (xs : List V) (us : List Value) (Q : VK), Inv X pins σ H s → Vals xs us → r xs H Q →
    wpAny (model X.prog X.w) X.A (call f us) (EP X pins σ Q) X.xe s
/-- a value's truth -/
def TruR (X : Cx) (r : V → Hp → (Bool → Hp → Prop) → Prop) : Prop :=
  ∀ (pins : List (Addr × Obj)) (s : Shared) (σ : St) (H : Hp) (x : V) (v : Value) (Q : Bool → Hp → Prop), Inv X pins σ H s → RelV x v → r x H Q →
    wpAny (model X.prog X.w) X.A (truthy v) (TP X pins σ Q) X.xe s

def tOp (r : R2) (ta tb : TE) : TE := fun σ H Q => ta σ H fun x H1 => tb σ H1 fun y H2 => r x y H2 Q
def tUn (r : V → Hp → VK → Prop) (ta : TE) : TE := fun σ H Q => ta σ H fun x H1 => r x H1 Q
/-- ints in, under C, and a value out -/
def rI (C : Int → Int → Prop) (g : Int → Int → V) : R2 := fun x y H Q => ∃ i j, x = .int i ∧ y = .int j ∧ C i j ∧ Q (g i j) H
def rI0 (g : Int → Int → V) : R2 := fun x y H Q => ∃ i j, x = .int i ∧ y = .int j ∧ Q (g i j) H
def rU (g : Int → V) : V → Hp → VK → Prop := fun x H Q => ∃ i, x = .int i ∧ Q (g i) H

section
variable {X : Cx} {a b c : Expr} {ta tb tc : TE} {pos : Pos}

theorem binT (ha : PE X a ta) (hb : PE X b tb) {pins : List (Addr × Obj)} {s : Shared} {σ : St} {H : Hp} {R : V → V → Hp → Prop} (I : Inv X pins σ H s)
    (h : ta σ H fun x H1 => tb σ H1 fun y H2 => R x y H2) {Q : Value → Shared → Prop} {f : Value → Value → Sem Value}
    (hf : ∀ v u s2 x y H2, Inv X pins σ H2 s2 → RelV x v → RelV y u → R x y H2 → wpAny (model X.prog X.w) X.A (f v u) Q X.xe s2) :
    wpAny (model X.prog X.w) X.A (eval a X.env) (fun v s₁ => wpAny (model X.prog X.w) X.A (eval b X.env) (fun u s₂ => wpAny (model X.prog X.w) X.A (f v u) Q X.xe s₂) X.xe s₁) X.xe s := by
  refine thn (ha pins s σ H _ I h) fun v s1 ⟨x, H1, I1, r1, q1⟩ => ?_
  refine thn (hb pins s1 σ H1 _ I1 q1) fun u s2 ⟨y, H2, I2, r2, q2⟩ => ?_
  exact hf v u s2 x y H2 I2 r1 r2 q2

theorem pe_op {op : Operator} {r : R2} (ho : OpR X (binaryOp op) r) (ha : PE X a ta) (hb : PE X b tb) : PE X (.BinOp a op b pos) (tOp r ta tb) := by
  intro pins s σ H Q I h
  exact wpAny_BinOp (binT ha hb I h fun v u s2 x y H2 I2 rx ry q => ho pins s2 σ H2 x y v u Q I2 rx ry q)
theorem pe_un {op : UnaryOp} {r : V → Hp → VK → Prop} (ho : UnR X (unaryOp op) r) (ha : PE X a ta) : PE X (.UnaryOp op a pos) (tUn r ta) := by
  intro pins s σ H Q I h
  exact UnaryOp_ (thn (ha pins s σ H _ I h) fun v s1 ⟨x, H1, I1, r1, q1⟩ => ho pins s1 σ H1 x v Q I1 r1 q1)

/-! ### ints -/
theorem opI {f : Value → Value → Sem Value} {C : Int → Int → Prop} {g : Int → Int → Int}
    (rule : ∀ (i j : Int) (t u : Tok) (s : Shared) (Q : Value → Shared → Prop) (E : Value → Shared → Prop), C i j → Q (.int (g i j) s.toks) { s with toks := s.toks + 1 } → wpAny (model X.prog X.w) X.A (f (.int i t) (.int j u)) Q E s) :
    OpR X f (rI C fun i j => .int (g i j)) := by
  intro pins s σ H x y v u Q I rx ry h
  obtain ⟨i, j, rfl, rfl, hc, q⟩ := h
  obtain ⟨t, rfl⟩ := rx
  obtain ⟨t', rfl⟩ := ry
  exact rule i j t t' s _ _ hc ⟨.int (g i j), H, I.tok _, ⟨_, rfl⟩, q⟩
theorem opI0 {f : Value → Value → Sem Value} {g : Int → Int → Int}
    (rule : ∀ (i j : Int) (t u : Tok) (s : Shared) (Q : Value → Shared → Prop) (E : Value → Shared → Prop), Q (.int (g i j) s.toks) { s with toks := s.toks + 1 } → wpAny (model X.prog X.w) X.A (f (.int i t) (.int j u)) Q E s) :
    OpR X f (rI0 fun i j => .int (g i j)) := by
  intro pins s σ H x y v u Q I rx ry h
  obtain ⟨i, j, rfl, rfl, q⟩ := h
  obtain ⟨t, rfl⟩ := rx
  obtain ⟨t', rfl⟩ := ry
  exact rule i j t t' s _ _ ⟨.int (g i j), H, I.tok _, ⟨_, rfl⟩, q⟩
theorem opB0 {f : Value → Value → Sem Value} {g : Int → Int → Bool}
    (rule : ∀ (i j : Int) (t u : Tok) (s : Shared) (Q : Value → Shared → Prop) (E : Value → Shared → Prop), Q (.bool (g i j)) s → wpAny (model X.prog X.w) X.A (f (.int i t) (.int j u)) Q E s) :
    OpR X f (rI0 fun i j => .bl (g i j)) := by
  intro pins s σ H x y v u Q I rx ry h
  obtain ⟨i, j, rfl, rfl, q⟩ := h
  obtain ⟨t, rfl⟩ := rx
  obtain ⟨t', rfl⟩ := ry
  exact rule i j t t' s _ _ ⟨.bl (g i j), H, I, rfl, q⟩

def CDiv (i j : Int) : Prop := 0 < j ∧ j < 1073741824
def CMul (i j : Int) : Prop := (-(2 ^ 64) < i ∧ i < 2 ^ 64) ∨ (-(2 ^ 64) < j ∧ j < 2 ^ 64)
theorem CMul.ok {i j : Int} (h : CMul i j) : IntMulOk i j := by
  rcases h with ⟨h1, h2⟩ | ⟨h1, h2⟩
  · exact .of_left (intBits_le_64 h1 h2)
  · exact .of_right (intBits_le_64 h1 h2)

theorem op_add : OpR X (binaryOp .Add) (rI0 fun i j => .int (i + j)) := opI0 fun _ _ _ _ _ _ _ q => add_int q
theorem op_sub : OpR X (binaryOp .Sub) (rI0 fun i j => .int (i - j)) := opI0 fun _ _ _ _ _ _ _ q => sub_int q
theorem op_mul : OpR X (binaryOp .Mult) (rI CMul fun i j => .int (i * j)) := opI fun _ _ _ _ _ _ _ hc q => mul_int q hc.ok
/-- // by a positive divisor -/
theorem op_fdiv : OpR X (binaryOp .FloorDiv) (rI CDiv fun i j => .int (i / j)) := opI fun i j _ _ _ _ _ hc q => by
  have h1 : (0 : Int) < j := hc.1
  have h2 : j < 1073741824 := hc.2
  exact floordiv_int (by omega) (by rw [Int.fdiv_eq_ediv_of_nonneg i (by omega)]; exact q) (.inl (PyProof.noPylong_small (by omega)))
/-- % by a positive divisor of any size -/
theorem op_mod : OpR X (binaryOp .Mod) (rI (fun _ j => 0 < j) fun i j => .int (i % j)) := opI fun i j _ _ _ _ _ hc q => by
  have h1 : (0 : Int) < j := hc
  exact mod_int' (by omega) (by rw [Int.fmod_eq_emod_of_nonneg i (by omega)]; exact q)


theorem unI {f : Value → Sem Value} {g : Int → Int}
    (rule : ∀ (i : Int) (t : Tok) (s : Shared) (Q : Value → Shared → Prop) (E : Value → Shared → Prop), Q (.int (g i) s.toks) { s with toks := s.toks + 1 } → wpAny (model X.prog X.w) X.A (f (.int i t)) Q E s) :
    UnR X f (rU fun i => .int (g i)) := by
  intro pins s σ H x v Q I rx h
  obtain ⟨i, rfl, q⟩ := h
  obtain ⟨t, rfl⟩ := rx
  exact rule i t s _ _ ⟨.int (g i), H, I.tok _, ⟨_, rfl⟩, q⟩
theorem un_neg : UnR X (unaryOp .USub) (rU fun i => .int (-i)) := unI fun _ _ _ _ _ q => neg_int q

/-! ### bools among ints: n += (a < b) -/
end

/-! ### comparisons -/
/-- the scalars that == tells apart as data does -/
def scal : V → V → Bool
  | .non, .non => true | .non, .int _ => true | .int _, .non => true | .non, .bl _ => true | .bl _, .non => true | .non, .str _ => true | .str _, .non => true
  | .int _, .int _ => true | .bl _, .bl _ => true | .str _, .str _ => true | .byt _, .byt _ => true
  | .int _, .str _ => true | .str _, .int _ => true | .bl _, .str _ => true | .str _, .bl _ => true
  | _, _ => false
def rEq : R2 := fun x y H Q => scal x y = true ∧ Q (.bl (decide (x = y))) H
def rNe : R2 := fun x y H Q => scal x y = true ∧ Q (.bl (!decide (x = y))) H

theorem dec_int {i j : Int} : decide (V.int i = V.int j) = (i == j) := by
  rw [Bool.eq_iff_iff]
  simp
theorem dec_bl {i j : Bool} : decide (V.bl i = V.bl j) = (i == j) := by
  rw [Bool.eq_iff_iff]
  simp
theorem dec_str {i j : Str} : decide (V.str i = V.str j) = (i == j) := by
  rw [Bool.eq_iff_iff]
  simp
theorem dec_byt {i j : Array UInt8} : decide (V.byt i = V.byt j) = (i.toList == j.toList) := by
  rw [Bool.eq_iff_iff]
  cases i
  cases j
  simp

section
variable {X : Cx} {a b c : Expr} {ta tb tc : TE} {pos : Pos}
theorem fin_bl {pins : List (Addr × Obj)} {σ : St} {H : Hp} {s : Shared} {Q : VK} {k k' : Bool} (I : Inv X pins σ H s) (q : Q (.bl k) H) (e : k = k') : EP X pins σ Q (.bool k') s := by
  subst e
  exact ⟨.bl k, H, I, rfl, q⟩
theorem op_eq : OpR X (compareOp .Eq) rEq := by
  intro pins s σ H x y v u Q I rx ry h
  obtain ⟨hs, q⟩ := h
  cases x with
  | non =>
    cases rx
    cases y with
    | non => cases ry; exact PySem.EqNone.eq_none_none (fin_bl I q (by simp))
    | bl j => cases ry; exact PySem.EqNone.eq_none_bool (fin_bl I q (by simp))
    | int j => obtain ⟨t', rfl⟩ := ry; exact PySem.EqNone.eq_none_int (fin_bl I q (by simp))
    | str j => obtain ⟨t', rfl⟩ := ry; exact PySem.EqNone.eq_none_str (fin_bl I q (by simp))
    | _ => exact absurd (show false = true from hs) Bool.false_ne_true
  | bl i =>
    cases rx
    cases y with
    | non => cases ry; exact PySem.EqNone.eq_bool_none (fin_bl I q (by simp))
    | bl j => cases ry; exact eq_bool (fin_bl I q dec_bl)
    | str j => obtain ⟨t', rfl⟩ := ry; exact PySem.EqMixed.eq_bool_str (fin_bl I q (by simp))
    | _ => exact absurd (show false = true from hs) Bool.false_ne_true
  | int i =>
    obtain ⟨t, rfl⟩ := rx
    cases y with
    | non => cases ry; exact PySem.EqNone.eq_int_none (fin_bl I q (by simp))
    | int j => obtain ⟨t', rfl⟩ := ry; exact eq_int (fin_bl I q dec_int)
    | str j => obtain ⟨t', rfl⟩ := ry; exact PySem.EqMixed.eq_int_str (fin_bl I q (by simp))
    | _ => exact absurd (show false = true from hs) Bool.false_ne_true
  | str i =>
    obtain ⟨t, rfl⟩ := rx
    cases y with
    | non => cases ry; exact PySem.EqNone.eq_str_none (fin_bl I q (by simp))
    | bl j => cases ry; exact PySem.EqMixed.eq_str_bool (fin_bl I q (by simp))
    | int j => obtain ⟨t', rfl⟩ := ry; exact PySem.EqMixed.eq_str_int (fin_bl I q (by simp))
    | str j => obtain ⟨t', rfl⟩ := ry; exact eq_str (fin_bl I q dec_str)
    | _ => exact absurd (show false = true from hs) Bool.false_ne_true
  | byt i =>
    obtain ⟨t, rfl⟩ := rx
    cases y with
    | byt j => obtain ⟨t', rfl⟩ := ry; exact PySem.W.eq_bytes (fin_bl I q dec_byt)
    | _ => exact absurd (show false = true from hs) Bool.false_ne_true
  | _ => cases y <;> exact absurd (show false = true from hs) Bool.false_ne_true
theorem op_ne : OpR X (compareOp .NotEq) rNe := by
  intro pins s σ H x y v u Q I rx ry h
  obtain ⟨hs, q⟩ := h
  cases x with
  | non =>
    cases rx
    cases y with
    | non => cases ry; exact PySem.EqNone.ne_none_none (fin_bl I q (by simp))
    | bl j => cases ry; exact PySem.EqNone.ne_none_bool (fin_bl I q (by simp))
    | int j => obtain ⟨t', rfl⟩ := ry; exact PySem.EqNone.ne_none_int (fin_bl I q (by simp))
    | str j => obtain ⟨t', rfl⟩ := ry; exact PySem.EqNone.ne_none_str (fin_bl I q (by simp))
    | _ => exact absurd (show false = true from hs) Bool.false_ne_true
  | bl i =>
    cases rx
    cases y with
    | non => cases ry; exact PySem.EqNone.ne_bool_none (fin_bl I q (by simp))
    | bl j => cases ry; exact ne_bool (fin_bl I q (congrArg not dec_bl))
    | str j => obtain ⟨t', rfl⟩ := ry; exact PySem.EqMixed.ne_bool_str (fin_bl I q (by simp))
    | _ => exact absurd (show false = true from hs) Bool.false_ne_true
  | int i =>
    obtain ⟨t, rfl⟩ := rx
    cases y with
    | non => cases ry; exact PySem.EqNone.ne_int_none (fin_bl I q (by simp))
    | int j => obtain ⟨t', rfl⟩ := ry; exact ne_int (fin_bl I q (congrArg not dec_int))
    | str j => obtain ⟨t', rfl⟩ := ry; exact PySem.EqMixed.ne_int_str (fin_bl I q (by simp))
    | _ => exact absurd (show false = true from hs) Bool.false_ne_true
  | str i =>
    obtain ⟨t, rfl⟩ := rx
    cases y with
    | non => cases ry; exact PySem.EqNone.ne_str_none (fin_bl I q (by simp))
    | bl j => cases ry; exact PySem.EqMixed.ne_str_bool (fin_bl I q (by simp))
    | int j => obtain ⟨t', rfl⟩ := ry; exact PySem.EqMixed.ne_str_int (fin_bl I q (by simp))
    | str j => obtain ⟨t', rfl⟩ := ry; exact ne_str (fin_bl I q (congrArg not dec_str))
    | _ => exact absurd (show false = true from hs) Bool.false_ne_true
  | byt i =>
    obtain ⟨t, rfl⟩ := rx
    cases y with
    | byt j => obtain ⟨t', rfl⟩ := ry; exact PySem.W.ne_bytes (fin_bl I q (congrArg not dec_byt))
    | _ => exact absurd (show false = true from hs) Bool.false_ne_true
  | _ => cases y <;> exact absurd (show false = true from hs) Bool.false_ne_true

theorem op_lt : OpR X (compareOp .Lt) (rI0 fun i j => .bl (decide (i < j))) := opB0 fun _ _ _ _ _ _ _ q => lt_int q
theorem op_le : OpR X (compareOp .LtE) (rI0 fun i j => .bl (decide (i ≤ j))) := opB0 fun _ _ _ _ _ _ _ q => le_int q
theorem op_gt : OpR X (compareOp .Gt) (rI0 fun i j => .bl (decide (j < i))) := opB0 fun _ _ _ _ _ _ _ q => gt_int q




theorem nomark (b : Expr) {op : CmpOp} (h : op ≠ .In := by decide) (h2 : op ≠ .NotIn := by decide) : behindInMarks op b = false := by
  have e1 : (op == CmpOp.In) = false := by cases op <;> first | rfl | exact absurd rfl h
  have e2 : (op == CmpOp.NotIn) = false := by cases op <;> first | rfl | exact absurd rfl h2
  cases b <;> simp [behindInMarks, e1, e2]
/-- a comparison as a value; hm: nomark b, or (for in, not in) by with_unfolding_all rfl -/
theorem pe_cmpR {op : CmpOp} {r : R2} (ho : OpR X (compareOp op) r) (ha : PE X a ta) (hb : PE X b tb) (hm : behindInMarks op b = false) : PE X (.Compare a [op] [b] pos) (tOp r ta tb) := by
  intro pins s σ H Q I h
  exact wpAny_Compare1 (binT ha hb I h fun v u s2 x y H2 I2 rx ry q => ho pins s2 σ H2 x y v u Q I2 rx ry q) hm
/-- a reading of a value as a test -/
def tTest (t : TE) : TT := fun σ H Q => t σ H fun x H' => ∃ k, x = .bl k ∧ Q k H'
theorem pt_cmpR {op : CmpOp} {r : R2} (ho : OpR X (compareOp op) r) (ha : PE X a ta) (hb : PE X b tb) (hm : behindInMarks op b = false) : PT X (.Compare a [op] [b] pos) (tTest (tOp r ta tb)) := by
  intro pins s σ H Q I h
  refine wpAny_isTrue_Compare1 (thn (ha pins s σ H _ I h) fun v s1 ⟨x, H1, I1, r1, q1⟩ => thn (hb pins s1 σ H1 _ I1 q1) fun u s2 ⟨y, H2, I2, r2, q2⟩ =>
    thn (ho pins s2 σ H2 x y v u _ I2 r1 r2 q2) fun c s3 ⟨z, H3, I3, r3, k, e, q3⟩ => ?_) hm
  subst e
  cases r3
  exact wpAny_truthy_bool ⟨H3, I3, q3⟩
/-- a op1 b op2 c -/
def tChain (r r' : R2) (ta tb tc : TE) : TE := fun σ H Q => ta σ H fun x H1 => tb σ H1 fun y H2 => r x y H2 fun z H3 => ∃ k, z = .bl k ∧
  (if k = true then tc σ H3 fun w' H4 => r' y w' H4 Q else Q (.bl false) H3)
theorem pe_chain {op op' : CmpOp} {r r' : R2} (ho : OpR X (compareOp op) r) (ho' : OpR X (compareOp op') r') (ha : PE X a ta) (hb : PE X b tb) (hc : PE X c tc)
    (hm : lastMarks [op, op'] [b, c] = false := by with_unfolding_all rfl) : PE X (.Compare a [op, op'] [b, c] pos) (tChain r r' ta tb tc) := by
  intro pins s σ H Q I h
  refine Compare_chain (thn (ha pins s σ H _ I h) fun v s1 ⟨x, H1, I1, r1, q1⟩ => chain_link (thn (hb pins s1 σ H1 _ I1 q1) fun u s2 ⟨y, H2, I2, r2, q2⟩ =>
    thn (ho pins s2 σ H2 x y v u _ I2 r1 r2 q2) fun d s3 ⟨z, H3, I3, r3, k, e, q3⟩ => ?_)) hm
  subst e
  cases r3
  refine wpAny_truthy_bool ?_
  cases k with
  | false => exact ite_ff ⟨.bl false, H3, I3, rfl, q3⟩
  | true => exact ite_tt (chain_last (thn (hc pins s3 σ H3 _ I3 q3) fun w' s4 ⟨z', H4, I4, r4, q4⟩ => ho' pins s4 σ H4 y z' u w' Q I4 r2 r4 q4))

/-! ### truth -/
/-- a value's truth by the abstract heap -/
def TruV (K : PySem.W.Frag) (x : V) (H : Hp) (k : Bool) : Prop :=
  match x with
  | .non => k = false
  | .bl b => k = b
  | .int i => k = (i != 0)
  | .str y => y.length ≤ sizeLine ∧ k = ((y.length : Int) != 0)
  | .byt y => y.size ≤ sizeLine ∧ k = ((y.size : Int) != 0)
  | .ref p => (∃ xs, SqL K H p xs ∧ k = !xs.isEmpty) ∨ (∃ xs, SqT K H p xs ∧ k = !xs.isEmpty) ∨ ∃ kvs, H p = some (.dK kvs) ∧ k = !kvs.isEmpty
  | _ => False
theorem isEmpty_kv {κ : Type} {kvs : List (κ × V)} {vs : List (κ × Value)} (r : KV kvs vs) : (!vs.isEmpty) = !kvs.isEmpty := by
  cases r <;> rfl
theorem isEmpty_of {xs : List V} {its : List Value} (r : Vals xs its) : (!its.toArray.isEmpty) = !xs.isEmpty := by
  cases r <;> simp
theorem line63 : (sizeLine : Nat) < 2 ^ 63 := by rw [sizeLine_eq]; decide
theorem tru_ok : TruR X (fun x H Q => ∃ k, TruV X.K x H k ∧ Q k H) := by
  intro pins s σ H x v Q I rx h
  obtain ⟨k, e, q⟩ := h
  have hl := line63
  have hs : sizeLine = 16777216 := sizeLine_eq
  cases x with
  | non =>
    cases rx
    have e' : k = false := e
    subst e'
    exact truthy_none ⟨H, I, q⟩
  | bl b =>
    cases rx
    have e' : k = b := e
    subst e'
    exact wpAny_truthy_bool ⟨H, I, q⟩
  | int i =>
    obtain ⟨t, rfl⟩ := rx
    have e' : k = (i != 0) := e
    subst e'
    exact PySem.P.truthy_int ⟨H, I, q⟩
  | str y =>
    obtain ⟨t, rfl⟩ := rx
    obtain ⟨hy, e'⟩ : y.length ≤ sizeLine ∧ k = ((y.length : Int) != 0) := e
    subst e'
    exact PySem.P.truthy_str (by omega) ⟨H, I.tok _, q⟩
  | byt y =>
    obtain ⟨t, rfl⟩ := rx
    obtain ⟨hy, e'⟩ : y.size ≤ sizeLine ∧ k = ((y.size : Int) != 0) := e
    subst e'
    exact PySem.W.truthy_bytes (by omega) ⟨H, I.tok _, q⟩
  | ref p =>
    cases rx
    have e' : (∃ xs, SqL X.K H p xs ∧ k = !xs.isEmpty) ∨ (∃ xs, SqT X.K H p xs ∧ k = !xs.isEmpty) ∨ ∃ kvs, H p = some (.dK kvs) ∧ k = !kvs.isEmpty := e
    rcases e' with ⟨xs, hx, e'⟩ | ⟨xs, hx, e'⟩ | ⟨kvs, hx, e'⟩
    · subst e'
      obtain ⟨its, r, pl, hz⟩ := I.list hx
      have hlen := r.length
      exact wpAny_truthy_list pl.isList (by simp only [List.size_toArray]; omega) ⟨H, I.tok _, by rw [isEmpty_of r]; exact q⟩
    · subst e'
      obtain ⟨its, r, pl, hz⟩ := I.tuple hx
      have hlen := r.length
      exact truthy_tuple pl (by simp only [List.size_toArray]; omega) ⟨H, I.tok _, by rw [isEmpty_of r]; exact q⟩
    · subst e'
      obtain ⟨hz, hS, vs, r, m⟩ : kvs.length ≤ sizeLine ∧ (p == sysModules) = false ∧ ∃ vs, KV kvs vs ∧ s.heap.DictOf (mixKind X.prog X.w) p vs := I.hok p _ hx
      have hlen : kvs.length = vs.length := Paired.length r
      exact wpAny_truthy_dict hS m (by omega) ⟨H, I.tok _, by rw [isEmpty_kv r]; exact q⟩
  | _ => exact (show False from e).elim
/-- any expression whose test is its value's truth (a name, a call, a subscript, a field ..: he by fun _ => rfl) -/
theorem pt_truth (ha : PE X a ta) (he : ∀ whole, isTrue a X.env whole = (do let v ← whole; standAt a.pos; holding [v] (truthy v))) :
    PT X a (fun σ H Q => ta σ H fun x H' => ∃ k, TruV X.K x H' k ∧ Q k H') := by
  intro pins s σ H Q I h
  exact isTrue_plain (thn (ha pins s σ H _ I h) fun v s1 ⟨x, H1, I1, r1, q1⟩ => tru_ok pins s1 σ H1 x v Q I1 r1 q1) (he _)

/-! ### strs and bytes -/


/-! ### scalar builtins, by CallR -/
theorem vals1 {x : V} {us : List Value} (r : Vals [x] us) : ∃ u, us = [u] ∧ RelV x u := by
  cases r with
  | cons r1 r2 => cases r2; exact ⟨_, rfl, r1⟩
theorem vals2 {x y : V} {us : List Value} (r : Vals [x, y] us) : ∃ u w', us = [u, w'] ∧ RelV x u ∧ RelV y w' := by
  cases r with
  | cons r1 r2 =>
    cases r2 with
    | cons r3 r4 => cases r4; exact ⟨_, _, rfl, r1, r3⟩
theorem call_min2 (hc : X.calm = true) : CallR X (.builtin "min") (fun xs H Q => ∃ i j, xs = [.int i, .int j] ∧ Q (.int (if j < i then j else i)) H) := by
  intro pins s σ H xs us Q I r h
  obtain ⟨i, j, rfl, q⟩ := h
  obtain ⟨u, w', rfl, ⟨t, rfl⟩, ⟨t', rfl⟩⟩ := vals2 r
  refine min_two_ints (I.ok.hd hc) fun h' tk k => ⟨_, H, I.kept k, ?_, q⟩
  by_cases hj : j < i
  · rw [if_pos hj, if_pos hj]; exact ⟨_, rfl⟩
  · rw [if_neg hj, if_neg hj]; exact ⟨_, rfl⟩
theorem call_int1 : CallR X (.type "int") (fun xs H Q => (∃ i, xs = [.int i] ∧ Q (.int i) H) ∨ ∃ k, xs = [.bl k] ∧ Q (.int (if k then 1 else 0)) H) := by
  intro pins s σ H xs us Q I r h
  rcases h with ⟨i, rfl, q⟩ | ⟨k, rfl, q⟩
  · obtain ⟨u, rfl, t, rfl⟩ := vals1 r
    exact call_int_int ⟨.int i, H, I, ⟨_, rfl⟩, q⟩
  · obtain ⟨u, rfl, r1⟩ := vals1 r
    cases r1
    exact call_int_bool ⟨.int (if k then 1 else 0), H, I.tok _, ⟨_, rfl⟩, q⟩
end
end L2

namespace L2
open PySem PySem.Spec PyProof.Rows

/-! ### an instance, its attributes a map -/
structure ObjM (h : Heap) (x dx C : Addr) (mA : Str → Option Value) : Prop where
  obj : h.get? x = some (PySem.W.instObj C dx)
  ns : h.Ns1 dx mA
  ne : dx ≠ x

theorem lookIn_ns {h : Heap} {dx : Addr} {mA : Str → Option Value} (n : h.Ns1 dx mA) : ∃ od, h.get? dx = some od ∧ ∀ name, PySem.W.lookIn name od = some (mA name) := by
  obtain ⟨o, es, ep, ho, hd, hk, _, hm⟩ := n
  refine ⟨o, ho, fun name => ?_⟩
  have e := hm name
  unfold nsFind findBy at e
  rw [← Array.find?_toList] at e
  unfold PySem.W.lookIn
  rw [hd]
  dsimp only
  split
  · rename_i y q
    rw [q] at e
    exact congrArg some e
  · rename_i q
    rw [q] at e
    have a : es.toList.any (·.refKey) = false := by
      rw [List.any_eq_false]
      intro y hy
      obtain ⟨z, t, hkey⟩ := hk y (Array.mem_toList_iff.mp hy)
      simp [DictEntry.refKey, hkey]
    have a' : ¬ es.toList.any (·.refKey) = true := by rw [a]; exact Bool.false_ne_true
    rw [if_neg a']
    exact congrArg some e

theorem ObjM.look {h : Heap} {x dx C : Addr} {mA : Str → Option Value} (I : ObjM h x dx C mA) : ∃ od, PySem.W.InstAt h x (PySem.W.instObj C dx) C (some od) ∧ ∀ name, PySem.W.lookIn name od = some (mA name) :=
  let ⟨od, ho, hl⟩ := lookIn_ns I.ns
  ⟨od, ⟨I.obj, rfl, rfl, ho⟩, hl⟩

section
variable {prog : Program} {w : World} {A : Around} {E : Value → Shared → Prop} {s : Shared} {K : PySem.W.Frag} {x dx C f : Addr} {mA : Str → Option Value} {name : Str} {v : Value}





end

/-! ### the attributes as a list of pairs -/


section
variable {P : Program} {w : World} {H H' : Hp} {h h' : Heap} {a C dx : Addr} {fs fs' : List (Str × V)}
theorem ins_get (hok : HOk P w H h) (e : H a = some (.ins C dx fs)) : ∃ mA, ObjM h a dx C mA ∧ (∀ f, RelO (fs.lookup f) (mA f)) ∧ PySem.Within mA (fs.map (·.1)) ∧ fs.length ≤ 1000 ∧ H dx = some (.own a) := by
  obtain ⟨d, z, ne, ob, mA, n, r, q⟩ := (show ObjOk P w H h a (.ins C dx fs) from hok a _ e)
  exact ⟨mA, ⟨ob, n, ne⟩, r, q, z, d⟩
end

/-! ### what of the text a class must have -/
structure Cls (K : PySem.W.Frag) (C : Addr) : Prop where
  pg : PySem.W.plainGet K C Str.empty = true
  hd : PySem.W.hasDictIn K C = true
  po : PySem.W.plainOver K C = true
  sa : PySem.W.findIn K (.ref C) "__setattr__" = some (some (.builtin "object.__setattr__"))
theorem Cls.get {K : PySem.W.Frag} {C : Addr} (c : Cls K C) (f : Str) : PySem.W.plainGet K C f = true := c.pg

section
variable {X : Cx} {pins : List (Addr × Obj)} {σ : St} {H : Hp} {s : Shared} {a C dx : Addr} {fs : List (Str × V)} {f : Str} {v : V} {A : Around} {E : Value → Shared → Prop}






end

/-! ### readings and rules -/

section
variable {X : Cx} {o e value : Expr} {f : Str} {pos pos' tpos : Pos} {ta tv : TE}

end

/-! ### isinstance -/
section
variable {X : Cx} {pins : List (Addr × Obj)} {σ : St} {H : Hp} {s : Shared} {A : Around} {E : Value → Shared → Prop} {Q : Value → Shared → Prop} {c : Value} {b : Bool}
/-- the type of a value, as the fragment's deciders take it; for an instance its class -/
inductive TyOf (K : PySem.W.Frag) (H : Hp) : V → Value → Prop where
  | non : TyOf K H .non (.type "NoneType")
  | bl (x : Bool) : TyOf K H (.bl x) (.type "bool")
  | int (i : Int) : TyOf K H (.int i) (.type "int")
  | str (x : Str) : TyOf K H (.str x) (.type "str")
  | flt (x : UInt64) : TyOf K H (.flt x) (.type "float")
  | lst {a : Addr} {xs : List V} (e : H a = some (.lst xs)) : TyOf K H (.ref a) (.type "list")
  | frz {a : Addr} {o : Obj} {xs : List V} (e : H a = some (.frz o (.lst xs))) : TyOf K H (.ref a) (.type "list")
  | tup {a : Addr} {xs : List V} (e : H a = some (.tup xs)) : TyOf K H (.ref a) (.type "tuple")
  | dK {a : Addr} {kvs : List (Key × V)} (e : H a = some (.dK kvs)) : TyOf K H (.ref a) (.type "dict")
  | dT {a : Addr} {kvs : List (List Key × V)} (e : H a = some (.dT kvs)) : TyOf K H (.ref a) (.type "dict")
  | ins {a C dx : Addr} {fs : List (Str × V)} (e : H a = some (.ins C dx fs)) (cl : Cls K C) (ha : PySem.W.findIn K (.ref C) "__class__" = some (some (.builtin "object.__class__")))
      (hn : PySem.W.specialIn K (.builtin "object.__class__") "__get__" = some (some (.builtin "getset_descriptor.__get__"))) (htk : PySem.W.takesIn K (.builtin "object.__class__") = some true)
      (hm : PySem.W.mroIn K C (.type "object") = some true) : TyOf K H (.ref a) (.ref C)
/-- isinstance(x, c) for one class c, a built-in or an own one: kitOne's answer -/
theorem isinst_ok {x : V} {u t : Value} (I : Inv X pins σ H s) (rx : RelV x u) (ty : TyOf X.K H x t) (e : PySem.W.kitOne X.K t c = some b) (h : ∀ tk, Q (.bool b) { s with toks := tk }) :
    wpAny (model X.prog X.w) A (call (.builtin "isinstance") [u, c]) Q E s := by
  cases ty with
  | non => cases (show u = Value.none from rx); exact PySem.W.kia_one PySem.W.kitx_none I.kIn True.intro e (fun z => nomatch z) h
  | bl y => cases (show u = Value.bool y from rx); exact PySem.W.kia_one PySem.W.kitx_bool I.kIn True.intro e (fun z => nomatch z) h
  | int i => obtain ⟨t, q⟩ := (show ∃ t, u = Value.int i t from rx); cases q; exact PySem.W.kia_one PySem.W.kitx_int I.kIn True.intro e (fun z => nomatch z) h
  | str y => obtain ⟨t, q⟩ := (show ∃ t, u = Value.str y t from rx); cases q; exact PySem.W.kia_one PySem.W.kitx_str I.kIn True.intro e (fun z => nomatch z) h
  | flt y => obtain ⟨t, q⟩ := (show ∃ t, u = Value.float y t from rx); cases q; exact PySem.W.kia_one PySem.W.kitx_float I.kIn True.intro e (fun z => nomatch z) h
  | @lst a xs ea =>
    cases (show u = Value.ref a from rx)
    obtain ⟨_, _, n, _, h1⟩ := (show ObjOk X.prog X.w H s.heap a (.lst xs) from I.hok a _ ea)
    exact PySem.W.kia_one PySem.W.kitx_list I.kIn ⟨_, h1, rfl⟩ e (fun z => nomatch z) h
  | @frz a ob xs ea =>
    cases (show u = Value.ref a from rx)
    obtain ⟨_, _, _, n, _, h1⟩ := (show ObjOk X.prog X.w H s.heap a (.frz ob (.lst xs)) from I.hok a _ ea)
    exact PySem.W.kia_one PySem.W.kitx_list I.kIn ⟨_, h1, rfl⟩ e (fun z => nomatch z) h
  | @tup a xs ea =>
    cases (show u = Value.ref a from rx)
    obtain ⟨_, _, _, p⟩ := (show ObjOk X.prog X.w H s.heap a (.tup xs) from I.hok a _ ea)
    obtain ⟨o, h1, h2, _⟩ := p
    exact PySem.W.kia_one PySem.W.kitx_tuple I.kIn ⟨o, h1, h2⟩ e (fun z => nomatch z) h
  | @dK a kvs ea =>
    cases (show u = Value.ref a from rx)
    obtain ⟨_, _, vs, _, p⟩ := (show ObjOk X.prog X.w H s.heap a (.dK kvs) from I.hok a _ ea)
    obtain ⟨o, es, ep, h1, h2, _⟩ := p
    exact PySem.W.kia_one PySem.W.kitx_dict I.kIn ⟨o, h1, h2.1⟩ e (fun z => nomatch z) h
  | @dT a kvs ea =>
    cases (show u = Value.ref a from rx)
    obtain ⟨_, _, xs, _, o, es, ep, h1, h2, _⟩ := (show ObjOk X.prog X.w H s.heap a (.dT kvs) from I.hok a _ ea)
    exact PySem.W.kia_one PySem.W.kitx_dict I.kIn ⟨o, h1, h2.1⟩ e (fun z => nomatch z) h
  | @ins a C dx fs ea cl ha hn htk hm =>
    cases (show u = Value.ref a from rx)
    obtain ⟨mA, O, _⟩ := ins_get I.hok ea
    obtain ⟨od, J, _⟩ := O.look
    exact PySem.W.kia_one (PySem.W.kitx_own (cl.get _) cl.hd ha hn htk hm) I.kIn J e (fun z => nomatch z) h
end
end L2

namespace L2
open PySem PySem.Spec PyProof.Rows

/-! ### room -/
structure Room (k : Nat) (A : Around) : Prop where
  hd : A.handled = none
  dp : A.depth + 3 * k + 5 < recursionLimit
  un : A.units + 16 * k + 200 < cLine
theorem Room.mono {j k : Nat} {A : Around} (r : Room k A) (h : j ≤ k) : Room j A := ⟨r.hd, by have := r.dp; omega, by have := r.un; omega⟩
theorem Room.deeper {k : Nat} {A : Around} (r : Room (k + 1) A) (env : Env) : Room k (A.deeper env) :=
  ⟨r.hd, by have := r.dp; show A.depth + 1 + 3 * k + 5 < _; omega, by have := r.un; show A.units + 3 + 16 * k + 200 < _; omega⟩
theorem Room.depth {k : Nat} {A : Around} (r : Room k A) : A.depth < recursionLimit := by have := r.dp; omega
theorem Room.units {k : Nat} {A : Around} (r : Room k A) : A.units + 64 < cLine := by have := r.un; omega

/-! ### argument lists and displays -/
def tNil : TA := fun _ H Q => Q [] H
def tCons (ta : TE) (tr : TA) : TA := fun σ H Q => ta σ H fun x H1 => tr σ H1 fun xs H2 => Q (x :: xs) H2
section
variable {X : Cx} {e : Expr} {es : List Expr} {te : TE} {t : TA} {pos : Pos}
theorem pa_nil : PA X [] tNil := fun _ _ _ _ H Q I h => Calls.spliced_nil ⟨[], H, I, .nil, h⟩
theorem pa_cons (ha : PE X e te) (hr : PA X es t) (hs : starEach (e :: es) X.env = (false, eval e X.env) :: starEach es X.env := by rfl) : PA X (e :: es) (tCons te t) := by
  intro pos pins s σ H Q I h
  rw [hs]
  show wpAny _ _ (spliced ((false, eval e X.env) :: backTo pos (starEach es X.env))) _ _ s
  refine Calls.spliced_cons (thn (ha pins s σ H _ I h) fun u s1 ⟨x, H1, I1, r1, q1⟩ => ?_)
  exact thn (hr pos pins s1 σ H1 _ I1 q1) fun us s2 ⟨xs, H2, I2, r2, q2⟩ => ⟨x :: xs, H2, I2, .cons r1 r2, q2⟩

/-- a tuple, a list of written items -/
def tTup (t : TA) : TE := fun σ H Q => t σ H fun xs H1 => xs.length ≤ sizeLine ∧ ∀ p, H1 p = none → Q (.ref p) (upd H1 p (.tup xs))
def tLst (t : TA) : TE := fun σ H Q => t σ H fun xs H1 => xs.length ≤ sizeLine ∧ ∀ p, H1 p = none → Q (.ref p) (upd H1 p (.lst xs))
theorem pe_tup {x1} (h : PA X es t) : PE X (.Tuple es x1 pos) (tTup t) := by
  intro pins s σ H Q I hq
  refine wpAny_Tuple_spliced (thn (h pos pins s σ H _ I hq) fun us s1 ⟨xs, H1, I1, r, z, q⟩ => ⟨by rw [← r.length]; exact z, ?_⟩)
  have hf : H1 s1.heap.objs.size = none := I1.hok.fresh (Nat.le_refl _)
  refine ⟨.ref s1.heap.objs.size, upd H1 s1.heap.objs.size (.tup xs), I1.laid (t' := s1.toks) (fun b u e => Heap.get?_push_of_some _ e) (Nat.le_refl _) ?_, rfl, q _ hf⟩
  exact ⟨z, us, r, ⟨_, Heap.get?_push_size _ rfl, rfl, _, rfl⟩⟩
theorem pe_lst (h : PA X es t) : PE X (.List es pos) (tLst t) := by
  intro pins s σ H Q I hq
  refine wpAny_List_spliced (thn (h pos pins s σ H _ I hq) fun us s1 ⟨xs, H1, I1, r, z, q⟩ => ⟨by rw [← r.length]; exact z, ?_⟩)
  have hf : H1 s1.heap.objs.size = none := I1.hok.fresh (Nat.le_refl _)
  refine ⟨.ref s1.heap.objs.size, upd H1 s1.heap.objs.size (.lst xs), I1.laid (t' := s1.toks) (fun b u e => Heap.get?_push_of_some _ e) (Nat.le_refl _) ?_, rfl, q _ hf⟩
  exact ⟨z, us, 0, r, Heap.get?_push_size _ rfl⟩
end

/-! ### what a def promises -/
/-- a def's promise: the bound arguments in the parameters' order, the heap, the wanted end, the wanted exception -/
abbrev Sp := List V → Hp → VK → XK → Prop
/-- how an exception lies behind a call (file 08 gives it): the callers' frames, abstract heap and state ahead of the call, the wish, the exception, the state -/
abbrev CXT := List Env → Hp → Shared → XK → Value → Shared → Prop

/-- the state at a call -/
structure Env0 (P : Program) (w : World) (K : PySem.W.Frag) (mg : Str → Option Value) (base : Heap) (A : Around) (outer : List Env) (s : Shared) (H : Hp) : Prop where
  frames : A.frames = some outer
  mod : Mod K mg base
  bs : ∀ b o, base.get? b = some o → s.heap.get? b = some o ∧ H b = none
  bsz : base.objs.size ≤ s.heap.objs.size
  funs : s.heap.FunFrames base outer
  frf : ∀ b ∈ frs outer, H b = none
  hok : HOk P w H s.heap
  bare : AllBare s.gens
/-- a call's end -/
def CE (outer : List Env) (P : Program) (w : World) (H : Hp) (s : Shared) (Q : VK) (u : Value) (s' : Shared) : Prop :=
  ∃ v H', s'.os = s.os ∧ AllBare s'.gens ∧ Un (frs outer) [] H H' s.heap s'.heap ∧ HOk P w H' s'.heap ∧ RelV v u ∧ Q v H'
def CR (CX : CXT) (outer : List Env) (P : Program) (w : World) (H : Hp) (s : Shared) (Q : VK) (E : XK) (r : Result) (s' : Shared) : Prop :=
  match r with
  | .ok (.ret u) => CE outer P w H s Q u s'
  | .ok _ => False
  | .error e => CX outer H s E e s'
structure FnOk (P : Program) (w : World) (K : PySem.W.Frag) (mg : Str → Option Value) (base : Heap) (CX : CXT) (k : Nat) (f : Addr) (fd : FuncData) (ps : List Str) (sp : Sp) : Prop where
  len : ∀ vs H Q E, sp vs H Q E → vs.length = ps.length
  run : ∀ (A : Around) (outer : List Env) (s : Shared) (H : Hp) (args : Args) (us : List Value) (vs : List V) (Q : VK) (E : XK), Room k A → Env0 P w K mg base A outer s H → BindsTo s fd args (ps.zip us) → Vals vs us → sp vs H Q E →
    codeAny (model P w) A (.call (.ref f) args) (CR CX outer P w H s Q E) s


section
variable {X : Cx} {pins : List (Addr × Obj)} {σ : St} {H : Hp} {s s' : Shared}
/-- from a body: what a callee wants -/
theorem Inv.env0 (I : Inv X pins σ H s) : Env0 X.prog X.w X.K X.mg X.base X.A X.stack s H :=
  ⟨I.ok.frames, I.ok.mod, I.bs, Nat.le_trans I.ok.bsz I.sz, I.stack, I.stkFree, I.hok, I.bare⟩
/-- behind a call -/
theorem Inv.after {Q : VK} {u : Value} (I : Inv X pins σ H s) (h : CE X.stack X.prog X.w H s Q u s') : EP X pins σ Q u s' := by
  obtain ⟨v, H', os, bare, un, hok, r, q⟩ := h
  obtain ⟨hh, g, d, t, os'⟩ := s'
  obtain rfl : os' = s.os := os
  exact ⟨v, H', I.call (h' := hh) (g' := g) (d' := d) (t' := t) (ch := []) un hok bare (fun b z => absurd z (by simp)), r, q⟩
end

/-! ### calls -/
/-- f(..): the written arguments, then the defaults dvs; E: what is wanted of an exception -/
def tCall (sp : Sp) (dvs : List V) (E : XK) (t : TA) : TE := fun σ H Q => t σ H fun vs H1 => sp (vs ++ dvs) H1 Q E

/-- how the parameters are bound: us the positional arguments, kw the keywords' values by name, ds the defaults that fill up -/
def Binds (K : PySem.W.Frag) (fd : FuncData) (ps : List Str) (ds : List Value) : Prop :=
  ∀ (s : Shared) (us : List Value), K.In s.heap → (us ++ ds).length = ps.length → BindsTo s fd ⟨us, []⟩ (ps.zip (us ++ ds))
/-- every parameter is given -/
theorem Binds.all {K : PySem.W.Frag} {fd : FuncData} {ps : List Str} (h : ∀ us : List Value, us.length = ps.length → bindArgs fd ⟨us, []⟩ = pure (ps.zip us)) : Binds K fd ps [] := fun s us _ hl => by
  rw [List.append_nil] at hl ⊢
  exact .of_eq (h us hl)

/-- an exception of a callee reaches what this body wants of exceptions -/
def Passes (CX : CXT) (X : Cx) (E : XK) : Prop := ∀ (pins : List (Addr × Obj)) (σ : St) (H : Hp) (s : Shared) (e : Value) (s' : Shared), Inv X pins σ H s → CX X.stack H s E e s' → X.xe e s'

section
variable {X : Cx} {CX : CXT} {k : Nat} {f C : Addr} {fd : FuncData} {ps : List Str} {sp : Sp} {dvs : List V} {ds : List Value} {E : XK} {x m : Str} {p pos apos : Pos} {e o : Expr} {es : List Expr} {ta : TE} {t : TA}

/-- the callee runs -/
theorem run_fn {pins : List (Addr × Obj)} {σ : St} {H : Hp} {s : Shared} {Q : VK} {us : List Value} {vs : List V} (F : FnOk X.prog X.w X.K X.mg X.base CX k f fd ps sp) (hr : Room k X.A) (hb : Binds X.K fd ps ds) (hd : Vals dvs ds) (hx : Passes CX X E)
    (I : Inv X pins σ H s) (r : Vals vs us) (h : sp (vs ++ dvs) H Q E) : wpAny (model X.prog X.w) X.A (call (.ref f) us) (EP X pins σ Q) X.xe s := by
  have r2 : Vals (vs ++ dvs) (us ++ ds) := r.append hd
  have hl : (us ++ ds).length = ps.length := by rw [← r2.length]; exact F.len _ _ _ _ h
  refine wpAny_call (codeAny_mono (F.run X.A X.stack s H ⟨us, []⟩ (us ++ ds) (vs ++ dvs) Q E hr I.env0 (hb s us I.kIn hl) r2 h) fun r s' hq => ?_)
  cases r with
  | error e => exact hx pins σ H s e s' I hq
  | ok fl =>
    cases fl with
    | ret u => exact I.after hq
    | next => exact False.elim hq
    | brk => exact False.elim hq
    | cont => exact False.elim hq

theorem pe_call (F : FnOk X.prog X.w X.K X.mg X.base CX k f fd ps sp) (hr : Room k X.A) (hg : Gl X x) (hm : X.mg x = some (.ref f)) (hk : PySem.W.keepIn X.K (.ref f) = true) (hb : Binds X.K fd ps ds) (hd : Vals dvs ds) (hx : Passes CX X E)
    (ha : PA X (e :: es) t) (hdb : (x == ("__debug__" : Str)) = false := by decide) (he : starEach (e :: es) X.env = (false, eval e X.env) :: starEach es X.env := by rfl) (hpl : (backTo pos (starEach es X.env)).any (·.1) = false := by rfl) :
    PE X (.Call (.Name x p) (e :: es) [] pos) (tCall sp dvs E t) := by
  intro pins s σ H Q I h
  refine wpAny_Call_Name_kw (ld_glob I hg hm ?_ hdb)
  refine PySem.W.callWith_K (h₀ := X.base) I.ok.mod.kin hk (thn (ha pos pins s σ H _ I h) fun us s1 ⟨vs, H1, I1, r, q⟩ => ⟨I1.kIn, ?_⟩) he hpl
  exact run_fn F hr hb hd hx I1 r q



end

/-! ### keywords -/
section
variable {X : Cx} {CX : CXT} {k : Nat} {f C : Addr} {fd : FuncData} {ps ks : List Str} {sp : Sp} {E : XK} {x m : Str} {p pos apos kpos : Pos} {e o : Expr} {es : List Expr} {kws : List Keyword} {te ta : TE} {t tk : TA} {nm : Option Str}

variable {g : List Value → List Value → List Value} {gV : List V → List V → List V}
end

/-! ### a def's body keeps its promise -/
/-- names: the parameters first -/
structure FnScope (N P : List Str) (sc : Scope) : Prop where
  kind : sc.kind = .function
  co : sc.isCoroutine = false
  gen : sc.isGenerator = false
  nd : N.Nodup
  pre : N.take P.length = P
  par : ∀ x ∈ P, sc.names.lookup x = some .local ∨ sc.names.lookup x = some .cell
  nofree : ∀ y ∈ sc.names, y.2 ≠ .free

theorem bindL_out {kindOf : Str → Option NameKind} {x : Str} : ∀ {binds : List (Str × Value)} {m : Str → Option Value}, (∀ v, (x, v) ∉ binds) → bindL kindOf binds m x = m x
  | [], _, _ => rfl
  | (n, v) :: r, m, h => by
    unfold bindL
    rw [bindL_out fun w hw => h w (List.mem_cons_of_mem _ hw)]
    split
    · have : x ≠ n := by rintro rfl; exact h v List.mem_cons_self
      simp [this]
    · rfl
theorem bindC_out {kindOf : Str → Option NameKind} {x : Str} : ∀ {binds : List (Str × Value)} {m : Str → Option Value}, (∀ v, (x, v) ∉ binds) → bindC kindOf binds m x = m x
  | [], _, _ => rfl
  | (n, v) :: r, m, h => by
    unfold bindC
    rw [bindC_out fun w hw => h w (List.mem_cons_of_mem _ hw)]
    split
    · rfl
    · have : x ≠ n := by rintro rfl; exact h v List.mem_cons_self
      simp [this]
theorem bindL_get {kindOf : Str → Option NameKind} {x : Str} {v : Value} : ∀ {P : List Str} {vs : List Value} {i : Nat} {m : Str → Option Value}, P.Nodup → P[i]? = some x → vs[i]? = some v → kindOf x = some .local →
    bindL kindOf (P.zip vs) m x = some v
  | [], _, _, _, _, h, _, _ => by simp at h
  | _ :: _, [], _, _, _, _, h, _ => by simp at h
  | p :: P, w :: vs, 0, m, nd, h1, h2, hk => by
    simp at h1 h2; subst h1; subst h2
    show bindL kindOf ((p, w) :: P.zip vs) m p = _
    unfold bindL
    rw [bindL_out fun v hv => (List.nodup_cons.mp nd).1 (List.of_mem_zip hv).1, if_pos hk]
    simp
  | p :: P, w :: vs, i + 1, m, nd, h1, h2, hk => by
    show bindL kindOf ((p, w) :: P.zip vs) m x = _
    unfold bindL
    exact bindL_get (i := i) (List.nodup_cons.mp nd).2 (by simpa using h1) (by simpa using h2) hk
theorem bindC_get {kindOf : Str → Option NameKind} {x : Str} {v : Value} : ∀ {P : List Str} {vs : List Value} {i : Nat} {m : Str → Option Value}, P.Nodup → P[i]? = some x → vs[i]? = some v → kindOf x ≠ some .local →
    bindC kindOf (P.zip vs) m x = some v
  | [], _, _, _, _, h, _, _ => by simp at h
  | _ :: _, [], _, _, _, _, h, _ => by simp at h
  | p :: P, w :: vs, 0, m, nd, h1, h2, hk => by
    simp at h1 h2; subst h1; subst h2
    show bindC kindOf ((p, w) :: P.zip vs) m p = _
    unfold bindC
    rw [bindC_out fun v hv => (List.nodup_cons.mp nd).1 (List.of_mem_zip hv).1, if_neg hk]
    simp
  | p :: P, w :: vs, i + 1, m, nd, h1, h2, hk => by
    show bindC kindOf ((p, w) :: P.zip vs) m x = _
    unfold bindC
    exact bindC_get (i := i) (List.nodup_cons.mp nd).2 (by simpa using h1) (by simpa using h2) hk

/-- the names' values at the entry -/
def start (N : List Str) (vs : List V) : St := vs.map some ++ List.replicate (N.length - vs.length) none

/-- the context of a def's body, at its entry; an exception leaves the frame, then lies as CX says -/
def cxOf (CX : CXT) (P : Program) (w : World) (K : PySem.W.Frag) (mg : Str → Option Value) (base : Heap) (N : List Str) (qual : Str) (scope : Scope) (f : Addr) (cd : Value) (A : Around) (outer : List Env) (s : Shared) (H : Hp) (E : XK) : Cx where
  prog := P
  w := w
  K := K
  mg := mg
  base := base
  A := A.deeper (envOfC qual scope s.heap.objs.size f cd)
  N := N
  s₀ := s
  H₀ := H
  env := envOfC qual scope s.heap.objs.size f cd
  outer := outer
  stack := envOfC qual scope s.heap.objs.size f cd :: outer
  ex := []
  calm := true
  fn := fun _ => true
  pn := []
  xe := fun e s' => wpAny (model P w) (A.deeper (envOfC qual scope s.heap.objs.size f cd)) (leaving (envOfC qual scope s.heap.objs.size f cd) e) (fun _ s'' => CX outer H s E e s'') (fun e' s'' => CX outer H s E e' s'') s'

theorem cell_has {sc : Scope} {n : Nat} {x : Str} (h : sc.names.lookup x = some .cell) : ∃ c, (cellsFrom n sc.names []).lookup x = some c := by
  have q := PySem.W.cellsFrom_some sc.names n [] (.inl h)
  exact Option.isSome_iff_exists.mp q

theorem inv_start {CX : CXT} {P : Program} {w : World} {K : PySem.W.Frag} {mg : Str → Option Value} {base : Heap} {N ps : List Str} {qual : Str} {scope : Scope} {f : Addr} {cd : Value} {A : Around} {outer : List Env} {s s1 : Shared} {H : Hp} {E : XK} {us : List Value} {vs : List V}
    (S : FnScope N ps scope) (hd : A.handled = none) (e0 : Env0 P w K mg base A outer s H) (hl : vs.length = ps.length) (r : Vals vs us)
    (x : InCallC s s.heap.objs.size (bindL (envOfC qual scope s.heap.objs.size f cd).kindOf (ps.zip us) fun _ => none) (cellsFrom (s.heap.objs.size + 1) scope.names []) (bindC (envOfC qual scope s.heap.objs.size f cd).kindOf (ps.zip us) fun _ => none) s1) :
    Inv (cxOf CX P w K mg base N qual scope f cd A outer s H E) [] (start N vs) H s1 := by
  have hpl : ps.length ≤ N.length := by have := congrArg List.length S.pre; rw [List.length_take] at this; omega
  obtain ⟨h1, tk, rfl, hk⟩ := x.done
  have noA : ∀ b : Addr, b ∉ (cxOf CX P w K mg base N qual scope f cd A outer s H E).ex := fun b z => absurd (show b ∈ ([] : List Addr) from z) (by simp)
  refine ⟨⟨e0.mod, S.kind, rfl, rfl, Nat.le_refl _, fun y z c h1 h2 => ?_, fun y hy => ?_, fun y c _ h => ?_, fun _ => hd, Around.frames_deeper e0.frames, .inr ⟨rfl, rfl⟩, fun b z => absurd z (noA b), e0.bs, e0.bsz, fun b _ _ => noA b, fun b z => absurd z (noA b), e0.funs, e0.frf⟩,
    rfl, e0.bare, Un.kept hk, ⟨_, x.toInCall.ns, fun i y v h1 h2 h3 => ?_⟩, fun y c h => ⟨_, x.cell y c h⟩, e0.hok.fresh (Nat.le_refl _), fun y c h => ?_, fun p hp => absurd (show p ∈ ([] : List (Addr × Obj)) from hp) (by simp), e0.hok.kept hk, ?_⟩
  · exact name_of_addr x.apart (PySem.mem_of_lookup h1) (PySem.mem_of_lookup h2)
  · have hy : scope.names.lookup y = some .cell ∨ scope.names.lookup y = some .free := hy
    rcases hy with hy | hy
    · exact cell_has hy
    · exact absurd rfl (S.nofree _ (PySem.mem_of_lookup hy))
  · exact Nat.le_of_lt (x.above y c (PySem.mem_of_lookup h))
  · have hi : i < vs.length := by
      unfold start at h2
      by_cases hi : i < vs.length
      · exact hi
      · rw [List.getElem?_append_right (by simpa using hi)] at h2
        rw [List.getElem?_replicate] at h2
        split at h2 <;> cases h2
    have ha : vs[i]? = some v := by
      unfold start at h2
      rw [List.getElem?_append_left (by simpa using hi), List.getElem?_map] at h2
      cases e : vs[i]? with
      | none => rw [e] at h2; cases h2
      | some a => rw [e] at h2; cases h2; rfl
    obtain ⟨u, hu, rv⟩ := r.get ha
    have hp : ps[i]? = some y := by
      rw [← S.pre, List.getElem?_take_of_lt (by omega)]; exact h1
    have ndP : ps.Nodup := by rw [← S.pre]; exact S.nd.sublist (List.take_sublist _ _)
    refine ⟨u, rv, ?_⟩
    rcases S.par y (List.mem_of_getElem? hp) with k | k
    · exact .inl ⟨k, bindL_get ndP hp hu k⟩
    · obtain ⟨c, e⟩ := cell_has (n := s.heap.objs.size + 1) k
      refine .inr ⟨.inl k, c, e, ?_⟩
      have q := x.cell y c e
      rw [bindC_get ndP hp hu (by show scope.names.lookup y ≠ _; rw [k]; decide)] at q
      exact q
  · exact e0.hok.fresh (Nat.le_of_lt (x.above y c (PySem.mem_of_lookup h)))
  · unfold start
    show _ = N.length
    rw [List.length_append, List.length_map, List.length_replicate]
    omega

/-- THE RULE: a def (or a method) of the text, by its body. The body's reading t is chosen for each entry; it is run at the parameters' values -/
theorem fn_of {CX : CXT} {P : Program} {w : World} {K : PySem.W.Frag} {mg : Str → Option Value} {base : Heap} {k : Nat} {f : Addr} {name qual : Str} {params : Arguments} {body : List Stmt} {scope : Scope} {dV kV doc pm cdv ct oc : Value} {an od : Option Addr}
    {osl : Array (Option Value)} {N ps : List Str} {sp : Sp} (lk : K.lookup f = some ⟨oc, od, .func (PySem.W.fnOf name qual params body scope dV kV doc pm an cdv ct), osl⟩) (hcd : PySem.W.codeIn K cdv qual = true) (S : FnScope N ps scope)
    (len : ∀ vs H Q E, sp vs H Q E → vs.length = ps.length)
    (hbody : ∀ (A : Around) (outer : List Env) (s : Shared) (H : Hp) (vs : List V) (Q : VK) (E : XK), Room k (A.deeper (envOfC qual scope s.heap.objs.size f cdv)) → sp vs H Q E →
      ∃ t, PSs (cxOf CX P w K mg base N qual scope f cdv A outer s H E) body t ∧ t { nx := fun _ H' => Q .non H', rt := Q } (start N vs) H) :
    FnOk P w K mg base CX (k + 1) f (PySem.W.fnOf name qual params body scope dV kV doc pm an cdv ct) ps sp := by
  refine ⟨len, fun A outer s H args us vs Q E hr e0 hb r hsp => ?_⟩
  have hl := len _ _ _ _ hsp
  have KX : K.In s.heap := e0.mod.kin.keeps fun b o e => (e0.bs b o e).1
  have lim : s.heap.NoLimit := e0.mod.nolimit.keeps fun b o e => (e0.bs b o e).1
  have hkind : ∀ y ∈ ps.zip us, scope.names.lookup y.1 = some .local ∨ (scope.names.lookup y.1 = some .cell ∧ ((cellsFrom (s.heap.objs.size + 1) scope.names []).lookup y.1).isSome = true) := fun ⟨n, v⟩ hy => by
    rcases S.par n (List.of_mem_zip hy).1 with q | q
    · exact .inl q
    · exact .inr ⟨q, PySem.W.cellsFrom_some _ _ _ (.inl q)⟩
  refine codeAny_call_function hr.depth (KX _ _ lk) rfl S.co S.gen rfl (PySem.W.codeRec_of KX hcd) (hb _ _ _ _ ?_)
  refine wpAny_newFunctionEnv_cells S.kind hkind fun env he s1 x => ?_
  subst he
  refine ⟨lim.keeps x.toInCall.keep, codeAny_func ?_⟩
  obtain ⟨t, ht, hq⟩ := hbody A outer s H vs Q E (hr.deeper _) hsp
  have I : Inv (cxOf CX P w K mg base N qual scope f cdv A outer s H E) [] (start N vs) H s1 := inv_start S hr.hd e0 hl r x
  refine wpAny_mono (ht [] s1 (start N vs) H _ I hq) (fun fl s' hs => ?_) fun e s' hs => hs
  have fin : ∀ {σ' : St} {H' : Hp} {v : V} {u : Value}, Inv (cxOf CX P w K mg base N qual scope f cdv A outer s H E) [] σ' H' s' → RelV v u → Q v H' → CE outer P w H s Q u s' :=
    fun {σ' H' v u} J rv q => ⟨v, H', J.os, J.bare, J.base, J.hok, rv, q⟩
  cases fl with
  | ret u =>
    obtain ⟨v, σ', H', J, rv, q⟩ := hs
    exact fin J rv q
  | next =>
    obtain ⟨σ', H', J, q⟩ := hs
    exact fin (v := V.non) (u := Value.none) J rfl q
  | brk =>
    obtain ⟨_, _, _, q⟩ := hs
    exact False.elim q
  | cont =>
    obtain ⟨_, _, _, q⟩ := hs
    exact False.elim q
end L2

namespace L2
open PySem PySem.Spec PyProof.Rows
section
variable {X : Cx} {x : Str} {p pos : Pos} {e : Expr} {es : List Expr} {t : TA} {id T : String} {r : List V → Hp → VK → Prop}

def tCB (r : List V → Hp → VK → Prop) (t : TA) : TE := fun σ H Q => t σ H fun vs H1 => r vs H1 Q
/-- f(e, ..), f a built-in function -/
theorem pe_callB (hc : CallR X (.builtin id) r) (hg : Gl X x) (hm : X.mg x = none) (hv : bootBuiltins x = some (.builtin id)) (ha : PA X (e :: es) t) (hn : x ≠ "__name__" := by decide) (hdb : (x == ("__debug__" : Str)) = false := by decide)
    (he : starEach (e :: es) X.env = (false, eval e X.env) :: starEach es X.env := by rfl) (hpl : (backTo pos (starEach es X.env)).any (·.1) = false := by rfl) : PE X (.Call (.Name x p) (e :: es) [] pos) (tCB r t) := by
  intro pins s σ H Q I h
  refine wpAny_Call_Name_kw (ld_blt I hg hm hv ?_ hn hdb)
  exact PyProof.Rows.callWith_builtin1 (thn (ha pos pins s σ H _ I h) fun us s1 ⟨vs, H1, I1, r1, q1⟩ => hc pins s1 σ H1 vs us Q I1 r1 q1) he hpl
/-- T(e, ..), T a built-in type -/
theorem pe_callTy (hc : CallR X (.type T) r) (hg : Gl X x) (hm : X.mg x = none) (hv : bootBuiltins x = some (.type T)) (ha : PA X (e :: es) t) (hn : x ≠ "__name__" := by decide) (hdb : (x == ("__debug__" : Str)) = false := by decide)
    (he : starEach (e :: es) X.env = (false, eval e X.env) :: starEach es X.env := by rfl) (hpl : (backTo pos (starEach es X.env)).any (·.1) = false := by rfl) : PE X (.Call (.Name x p) (e :: es) [] pos) (tCB r t) := by
  intro pins s σ H Q I h
  refine wpAny_Call_Name_kw (ld_blt I hg hm hv ?_ hn hdb)
  exact PyProof.Rows.callWith_type1 (thn (ha pos pins s σ H _ I h) fun us s1 ⟨vs, H1, I1, r1, q1⟩ => hc pins s1 σ H1 vs us Q I1 r1 q1) he hpl
end
end L2

namespace HT
open PySem PyProof.Rows



section
open PySem.SeqAt
open PySem.AutoSeq1 (wpAny_loadPart')
open PySem.MeetsSeq PySem.MeetsSeq2 PySem.MeetsSeq3

end

section
variable {prog : Program} {w : World} {A : Around} {E : Value → Shared → Prop} {s : Shared}



/-! ### t[a:b], not the whole -/
/-- a slice's bound as a place among n (d where it is left out) -/
def sIx (n d : Nat) : Option Int → Nat
  | none => d
  | some v => if v < 0 then (v + (n : Int)).toNat else min v.toNat n
theorem sIx_none (n d : Nat) : sIx n d none = d := rfl
theorem sIx_nat (n d k : Nat) : sIx n d (some (k : Int)) = min k n := by
  show (if (k : Int) < 0 then ((k : Int) + (n : Int)).toNat else min (k : Int).toNat n) = min k n
  rw [if_neg (by omega), Int.toNat_natCast]

end
end HT

namespace L2
open PySem PySem.Spec PyProof.Rows

/-! ### the parts of a slice -/
abbrev TO := St → Hp → (Option Int → Hp → Prop) → Prop
/-- a slice's part (left out, or an int) -/
def PO (X : Cx) (e : Option Expr) (t : TO) : Prop :=
  ∀ (pins : List (Addr × Obj)) (s : Shared) (σ : St) (H : Hp) (Q : Option Int → Hp → Prop), Inv X pins σ H s → t σ H Q →
    wpAny (model X.prog X.w) X.A (evalPart e X.env) (fun u s' => ∃ o H', Inv X pins σ H' s' ∧ IsPart u o ∧ Q o H') X.xe s
def tNoPart : TO := fun _ H Q => Q none H
def tPart (t : TE) : TO := fun σ H Q => t σ H fun x H1 => ∃ i, x = .int i ∧ Q (some i) H1

theorem intsAre_of {ns : List Int} : ∀ {us : List Value}, Vals (ns.map V.int) us → IntsAre us ns := by
  induction ns with
  | nil => intro us r; rw [List.map_nil] at r; cases r; exact .nil
  | cons n ns ih =>
    intro us r
    rw [List.map_cons] at r
    cases r with
    | cons r1 r2 =>
      obtain ⟨t, e⟩ := r1
      subst e
      exact .cons n t (ih r2)

section
variable {X : Cx} {e : Expr} {te : TE} {lo hi : Option Expr} {tl th : TO} {pos p2 : Pos}

theorem po_none : PO X none tNoPart := by
  intro pins s σ H Q I h
  rw [evalPart_none]
  exact wpAny_pure ⟨none, H, I, .none, h⟩
theorem po_some (h : PE X e te) : PO X (some e) (tPart te) := by
  intro pins s σ H Q I hw
  rw [evalPart_some]
  refine thn (h pins s σ H _ I hw) fun u s1 ⟨x, H1, I1, r1, q1⟩ => ?_
  obtain ⟨i, rfl, q⟩ := q1
  obtain ⟨t, rfl⟩ := r1
  exact ⟨some i, H1, I1, .int i t, q⟩

/-- what a slice of a value is, by values: the slice object stands at sl -/
def SlR (X : Cx) (r : V → Option Int → Option Int → Hp → VK → Prop) : Prop :=
  ∀ (pins : List (Addr × Obj)) (s : Shared) (σ : St) (H : Hp) (x : V) (v vl vu : Value) (lo hi : Option Int) (sl : Addr) (Q : VK), Inv X pins σ H s → RelV x v → s.heap.IsSliceOf sl vl vu .none → IsPart vl lo → IsPart vu hi → r x lo hi H Q →
    ∃ T id, typeLookup (.type T) "__getitem__" = pure (some (.builtin id)) ∧ s.TypeIs v T ∧ wpAny (model X.prog X.w) X.A (getItem v (.ref sl)) (EP X pins σ Q) X.xe s
def tSl (r : V → Option Int → Option Int → Hp → VK → Prop) (te : TE) (tl th : TO) : TE := fun σ H Q => te σ H fun x H1 => tl σ H1 fun l H2 => th σ H2 fun u H3 => r x l u H3 Q
/-- a[lo:hi], any a -/
theorem pe_slice {r : V → Option Int → Option Int → Hp → VK → Prop} (hr : SlR X r) (he : PE X e te) (hl : PO X lo tl) (hu : PO X hi th) : PE X (.Subscript e (.Slice lo hi none p2) pos) (tSl r te tl th) := by
  intro pins s σ H Q I h
  refine Subscript_ (thn (he pins s σ H _ I h) fun v s1 ⟨x, H1, I1, r1, q1⟩ => ?_)
  refine wpAny_Slice (thn (hl pins s1 σ H1 _ I1 q1) fun vl s2 ⟨l, H2, I2, pl, q2⟩ => thn (hu pins s2 σ H2 _ I2 q2) fun vu s3 ⟨u, H3, I3, pu, q3⟩ => ?_)
  rw [evalPart_none]
  refine wpAny_pure ?_
  have I4 : Inv X pins σ H3 { s3 with heap := s3.heap.push { cls := .type "slice", data := .fields #[vl, vu, .none] } } := I3.kept (t' := s3.toks) fun b ob q => Heap.get?_push_of_some _ q
  obtain ⟨T, id, hT, ht, hg⟩ := hr pins { s3 with heap := s3.heap.push { cls := .type "slice", data := .fields #[vl, vu, .none] } } σ H3 x v vl vu l u s3.heap.objs.size Q I4 r1 (Heap.IsSliceOf.new ..) pl pu q3
  show wpAny (model X.prog X.w) X.A (subscriptTail e (.Slice lo hi none p2) v (.ref s3.heap.objs.size)) (EP X pins σ Q) X.xe { s3 with heap := s3.heap.push { cls := .type "slice", data := .fields #[vl, vu, .none] } }
  exact tail_any (ops := [.ref s3.heap.objs.size, v]) ht hT hg (by with_unfolding_all rfl)

/-- the items of xs[lo:hi] -/
def cutV (xs : List V) (lo hi : Option Int) : List V := (xs.drop (HT.sIx xs.length 0 lo)).take (HT.sIx xs.length xs.length hi - HT.sIx xs.length 0 lo)
theorem cutV_length (xs : List V) (lo hi : Option Int) : (cutV xs lo hi).length ≤ xs.length := by
  unfold cutV
  rw [List.length_take, List.length_drop]
  omega

/-! ### t < u, t + u -/
end
end L2

namespace L2
open PySem PySem.Spec PyProof.Rows

/-! ### places -/
/-- the place that an index of any sign means -/
def ixN (n : Nat) (i : Int) : Option Nat := if 0 ≤ i then (if i < n then some i.toNat else none) else if -(n : Int) ≤ i then some (i + n).toNat else none
def atI {α : Type} (xs : List α) (i : Int) : Option α := (ixN xs.length i).bind fun j => xs[j]?
theorem ixN_seq {n : Nat} {i : Int} {j : Nat} (h : ixN n i = some j) : seqIndex? i n = some j ∧ j < n ∧ -(n : Int) ≤ i ∧ i < n := by
  unfold ixN at h
  by_cases h0 : 0 ≤ i
  · rw [if_pos h0] at h
    by_cases h1 : i < n
    · rw [if_pos h1] at h
      have e : i.toNat = j := Option.some.inj h
      exact ⟨by rw [seqIndex_of h0 h1, e], by omega, by omega, h1⟩
    · rw [if_neg h1] at h; cases h
  · rw [if_neg h0] at h
    by_cases h1 : -(n : Int) ≤ i
    · rw [if_pos h1] at h
      have e : (i + n).toNat = j := Option.some.inj h
      exact ⟨by rw [seqIndex_neg (by omega) h1, e], by omega, h1, by omega⟩
    · rw [if_neg h1] at h; cases h
theorem atI_get {α : Type} {xs : List α} {i : Int} {v : α} (h : atI xs i = some v) : ∃ j, seqIndex? i xs.length = some j ∧ xs[j]? = some v ∧ j < xs.length ∧ -(xs.length : Int) ≤ i ∧ i < xs.length := by
  unfold atI at h
  cases e : ixN xs.length i with
  | none => rw [e] at h; cases h
  | some j =>
    rw [e] at h
    obtain ⟨h1, h2, h3, h4⟩ := ixN_seq e
    exact ⟨j, h1, h, h2, h3, h4⟩
theorem atI_nat {α : Type} {xs : List α} {j : Nat} {v : α} (h : xs[j]? = some v) : atI xs (j : Int) = some v := by
  have hj : j < xs.length := (List.getElem?_eq_some_iff.mp h).1
  have e : ixN xs.length (j : Int) = some j := by
    unfold ixN
    rw [if_pos (by omega), if_pos (by omega)]; simp
  unfold atI; rw [e]; exact h

/-! ### what may be subscripted -/
/-- what stands as an index of a plain subscript -/
def PlainIx (b : Expr) : Prop := ∀ o i, subscripted b false o i = operate [o, i] (getItem o i)
/-- a subscript by values -/
def IxR (X : Cx) (r : R2) : Prop :=
  ∀ (value slice : Expr) (pins : List (Addr × Obj)) (s : Shared) (σ : St) (H : Hp) (x y : V) (v u : Value) (Q : VK), Inv X pins σ H s → RelV x v → RelV y u → r x y H Q →
    subscripted slice false v u = operate [v, u] (getItem v u) → wpAny (model X.prog X.w) X.A (subscriptTail value slice v u) (EP X pins σ Q) X.xe s
/-- a call of a builtin's method by values: the receiver, the arguments -/
def MtR (X : Cx) (id : String) (r : V → List V → Hp → VK → Prop) : Prop :=
  ∀ (pins : List (Addr × Obj)) (s : Shared) (σ : St) (H : Hp) (x : V) (xs : List V) (v : Value) (us : List Value) (Q : VK), Inv X pins σ H s → RelV x v → Vals xs us → r x xs H Q →
    wpAny (model X.prog X.w) X.A (call (.builtin id) (v :: us)) (EP X pins σ Q) X.xe s
section
variable {X : Cx} {a b : Expr} {ta tb : TE} {pos : Pos}
/-- a[b] -/
theorem pe_ix {r : R2} (hr : IxR X r) (ha : PE X a ta) (hb : PE X b tb) (hs : PlainIx b) : PE X (.Subscript a b pos) (tOp r ta tb) := by
  intro pins s σ H Q I h
  exact Subscript_ (binT ha hb I h fun v u s2 x y H2 I2 rx ry q => hr a b pins s2 σ H2 x y v u Q I2 rx ry q (hs _ _))

def rIxL (K : PySem.W.Frag) : R2 := fun x y H Q => ∃ p xs i v, x = .ref p ∧ y = .int i ∧ SqL K H p xs ∧ atI xs i = some v ∧ Q v H
def rIxT (K : PySem.W.Frag) : R2 := fun x y H Q => ∃ p xs i v, x = .ref p ∧ y = .int i ∧ SqT K H p xs ∧ atI xs i = some v ∧ Q v H
theorem ix_list : IxR X (rIxL X.K) := by
  intro value slice pins s σ H x y v u Q I rx ry h hs
  obtain ⟨p, xs, i, z, rfl, rfl, hq, he, q⟩ := h
  cases rx
  obtain ⟨t, rfl⟩ := ry
  obtain ⟨its, r, pl, hz⟩ := I.list hq
  obtain ⟨j, h1, h2, h3, h4, h5⟩ := atI_get he
  obtain ⟨w, ew, rw'⟩ := r.get h2
  have hl := r.length
  have hn := line63
  have fin : EP X pins σ Q w s := ⟨z, H, I, rw', q⟩
  by_cases h0 : 0 ≤ i
  · have hj : i.toNat = j := by
      rw [seqIndex_of h0 h5] at h1
      exact Option.some.inj h1
    exact item_listR pl.isList h0 (by omega) (by rw [hj]; simpa using ew) fin hs
  · have hj : (i + (its.toArray.size : Int)).toNat = j := by
      rw [seqIndex_neg (by omega) h4] at h1
      rw [List.size_toArray, ← hl]
      exact Option.some.inj h1
    exact subscriptTail_builtinR (x := w) pl.isList.typeIs slot_list_getitem.lookup
      (wpAny_getItem_list_neg (Q := fun r s' => r = w ∧ EP X pins σ Q r s') pl.isList (by omega) (by rw [List.size_toArray] <;> omega) (by omega) (by rw [hj]; simpa using ew) ⟨rfl, fin⟩) hs
theorem ix_tup : IxR X (rIxT X.K) := by
  intro value slice pins s σ H x y v u Q I rx ry h hs
  obtain ⟨p, xs, i, z, rfl, rfl, hq, he, q⟩ := h
  cases rx
  obtain ⟨t, rfl⟩ := ry
  obtain ⟨its, r, pl, hz⟩ := I.tuple hq
  obtain ⟨j, h1, h2, h3, h4, h5⟩ := atI_get he
  obtain ⟨w, ew, rw'⟩ := r.get h2
  have hl := r.length
  have hn := line63
  have fin : EP X pins σ Q w s := ⟨z, H, I, rw', q⟩
  exact subscriptTail_builtinR (x := w) pl.typeIs slot_tuple_getitem.lookup
    (getItem_tuple (j := j) (Q := fun r s' => r = w ∧ EP X pins σ Q r s') pl (by omega) (by omega) (by rw [List.size_toArray, ← hl]; exact h1) (by simpa using ew) ⟨rfl, fin⟩) hs

/-! ### xs[i] = v, any sign -/
/-- the list's object behind a store -/
theorem mapSeq_set (its : List Value) (n j : Nat) (u : Value) : Obj.mapSeq (·.setIfInBounds j u) { cls := .type "list", data := .seq its.toArray n } = { cls := .type "list", data := .seq (its.set j u).toArray n } := by
  simp [Obj.mapSeq]
theorem Inv.lst {pins : List (Addr × Obj)} {σ : St} {H : Hp} {s : Shared} {p : Addr} {xs : List V} (I : Inv X pins σ H s) (h : H p = some (.lst xs)) :
    ∃ (its : List Value) (n : Nat), Vals xs its ∧ s.heap.get? p = some { cls := .type "list", data := .seq its.toArray n } ∧ xs.length ≤ sizeLine := by
  obtain ⟨z, its, n, r, e⟩ := I.hok p _ h
  exact ⟨its, n, r, e, z⟩
/-- the list at p is written by an update of its object -/
theorem Inv.lstUpd {pins : List (Addr × Obj)} {σ : St} {H : Hp} {s : Shared} {p : Addr} {xs ys : List V} {its its' : List Value} {n n' : Nat} {f : Obj → Obj} (I : Inv X pins σ H s) (h : H p = some (.lst xs))
    (ho : s.heap.get? p = some { cls := .type "list", data := .seq its.toArray n }) (hf : f { cls := .type "list", data := .seq its.toArray n } = { cls := .type "list", data := .seq its'.toArray n' }) (r : Vals ys its') (hz : ys.length ≤ sizeLine) (t : Nat) :
    Inv X pins σ (upd H p (.lst ys)) { s with heap := s.heap.update p f, toks := t } := by
  have e : (s.heap.update p f).get? p = some { cls := .type "list", data := .seq its'.toArray n' } := by
    rw [Heap.get?_update_self f ho (by rw [hf] <;> rfl), hf]
  refine I.write (x := p) (e := p) (by rw [h]; trivial) (.inl rfl) (fun b u hb q => (Heap.get?_update_other _ _ (Ne.symm hb)).trans q) ⟨_, e⟩ ?_
  exact ⟨hz, its', n', r, e⟩
def rSetL : V → V → V → Hp → (Hp → Prop) → Prop := fun o i v H Q => ∃ p xs k j, o = .ref p ∧ i = .int k ∧ H p = some (.lst xs) ∧ ixN xs.length k = some j ∧ Q (upd H p (.lst (xs.set j v)))
theorem set_list : PSet X rSetL := by
  intro pins s σ H o i v ov iv u Q I ro ri rv h
  obtain ⟨p, xs, k, j, rfl, rfl, hp, hj, q⟩ := h
  cases ro
  obtain ⟨t, rfl⟩ := ri
  obtain ⟨its, n, r, ho, hz⟩ := I.lst hp
  obtain ⟨h1, h2, h3, h4⟩ := ixN_seq hj
  have hl := r.length
  have hn := line63
  have I' : Inv X pins σ (upd H p (.lst (xs.set j v))) { s with heap := s.heap.update p (Obj.mapSeq (·.setIfInBounds j u)) } :=
    I.lstUpd hp ho (mapSeq_set its n j u) (r.set rv j) (by rw [List.length_set]; exact hz) s.toks
  by_cases h0 : 0 ≤ k
  · have hk : k.toNat = j := by
      rw [seqIndex_of h0 h4] at h1
      exact Option.some.inj h1
    exact PySem.W.ki_setAt ho h0 (by omega) (by rw [List.size_toArray, ← hl]; exact h4) (by rw [hk]; exact ⟨_, I', q⟩)
  · have hk : (k + (its.toArray.size : Int)).toNat = j := by
      rw [seqIndex_neg (by omega) h3] at h1
      rw [List.size_toArray, ← hl]
      exact Option.some.inj h1
    exact PySem.W.ki_setBack ho (by omega) (by rw [List.size_toArray, ← hl]; exact h3) (by omega) (by rw [hk]; exact ⟨_, I', q⟩)

/-! ### slices -/
theorem slice_bounds (lo hi : Option Int) (n : Nat) : (sliceBounds lo hi none n).1 = ((HT.sIx n 0 lo : Nat) : Int) ∧ (sliceBounds lo hi none n).2.1 = ((HT.sIx n n hi : Nat) : Int) ∧ (sliceBounds lo hi none n).2.2 = 1 := by
  refine ⟨?_, ?_, rfl⟩
  · cases lo with
    | none => simp [sliceBounds, HT.sIx]
    | some i =>
      simp only [sliceBounds, HT.sIx, Option.getD_none, show (1 : Int) > 0 by decide, if_true]
      by_cases h : i < 0
      · simp only [h, if_true] <;> omega
      · simp only [h, if_false] <;> omega
  · cases hi with
    | none => simp [sliceBounds, HT.sIx]
    | some i =>
      simp only [sliceBounds, HT.sIx, Option.getD_none, show (1 : Int) > 0 by decide, if_true]
      by_cases h : i < 0
      · simp only [h, if_true] <;> omega
      · simp only [h, if_false] <;> omega
theorem slicePick_cut (its : List Value) (lo hi : Option Int) : slicePick its.toArray lo hi none = ((its.drop (HT.sIx its.length 0 lo)).take (HT.sIx its.length its.length hi - HT.sIx its.length 0 lo)).toArray := by
  obtain ⟨h1, h2, h3⟩ := slice_bounds lo hi its.toArray.size
  unfold slicePick
  rw [h1, h2, h3]
  simp only [sliceRange_one, pick_run, List.size_toArray] <;> rfl
/-- xs[lo:hi] of a list: a new list -/
def rSlL (K : PySem.W.Frag) : V → Option Int → Option Int → Hp → VK → Prop := fun x lo hi H Q => ∃ a xs, x = .ref a ∧ SqL K H a xs ∧ ∀ p, H p = none → Q (.ref p) (upd H p (.lst (cutV xs lo hi)))
theorem sl_list : SlR X (rSlL X.K) := by
  intro pins s σ H x v vl vu lo hi sl Q I rx hs pl pu h
  obtain ⟨a, xs, rfl, hx, q⟩ := h
  cases rx
  obtain ⟨its, r, ht, hz⟩ := I.list hx
  have hlen := r.length
  refine ⟨"list", _, slot_list_getitem.lookup, ht.isList.typeIs, ?_⟩
  refine wpAny_getItem_list_slice ht.isList hs pl pu .none (by simp) ?_ (by rw [List.size_toArray] <;> omega)
  rw [slicePick_cut, ← hlen]
  refine ⟨.ref s.heap.objs.size, _, I.laid (t' := s.toks) (o := .lst (cutV xs lo hi)) (fun b ob q => Heap.get?_push_of_some _ q) (Nat.le_refl _) ?_, rfl, q _ (I.hok.fresh (Nat.le_refl _))⟩
  exact ⟨Nat.le_trans (cutV_length xs lo hi) hz, _, 0, (r.drop (HT.sIx xs.length 0 lo)).take (HT.sIx xs.length xs.length hi - HT.sIx xs.length 0 lo), Heap.get?_push_size _ rfl⟩

/-! ### in, not in: flat items -/
def flatV : V → Bool
  | .non => true
  | .bl _ => true
  | .int _ => true
  | .str _ => true
  | _ => false
/-- == of flat values -/
def eqV : V → V → Bool
  | .non, .non => true
  | .bl a, .bl b => a == b
  | .bl a, .int b => (if a then 1 else 0) == b
  | .int a, .bl b => a == (if b then 1 else 0)
  | .int a, .int b => a == b
  | .str a, .str b => a == b
  | _, _ => false
theorem eqAt_V {A : Around} {s : Shared} {y x : V} {u v : Value} (ry : RelV y u) (rx : RelV x v) (fy : flatV y = true) (fx : flatV x = true) : SeqAt.EqAt A s u v (eqV y x) := by
  cases y with
  | non =>
    cases ry
    cases x with
    | non => cases rx; exact SeqAt.EqAt.same _
    | bl b => cases rx; exact SeqAt.EqAt.none_bool b
    | int b => obtain ⟨t, rfl⟩ := rx; exact SeqAt.EqAt.none_int b t
    | str b => obtain ⟨t, rfl⟩ := rx; exact SeqAt.EqAt.none_str b t
    | _ => exact absurd (show false = true from fx) Bool.false_ne_true
  | bl a =>
    cases ry
    cases x with
    | non => cases rx; exact SeqAt.EqAt.bool_none a
    | bl b => cases rx; exact SeqAt.EqAt.bool_bool a b
    | int b => obtain ⟨t, rfl⟩ := rx; exact SeqAt.EqAt.bool_int a b t
    | str b => obtain ⟨t, rfl⟩ := rx; exact SeqAt.EqAt.bool_str a b t
    | _ => exact absurd (show false = true from fx) Bool.false_ne_true
  | int a =>
    obtain ⟨t', rfl⟩ := ry
    cases x with
    | non => cases rx; exact SeqAt.EqAt.int_none a t'
    | bl b => cases rx; exact SeqAt.EqAt.int_bool a t' b
    | int b => obtain ⟨t, rfl⟩ := rx; exact SeqAt.EqAt.int_int a t' b t
    | str b => obtain ⟨t, rfl⟩ := rx; exact SeqAt.EqAt.int_str a t' b t
    | _ => exact absurd (show false = true from fx) Bool.false_ne_true
  | str a =>
    obtain ⟨t', rfl⟩ := ry
    cases x with
    | non => cases rx; exact SeqAt.EqAt.str_none a t'
    | bl b => cases rx; exact SeqAt.EqAt.str_bool a t' b
    | int b => obtain ⟨t, rfl⟩ := rx; exact SeqAt.EqAt.str_int a t' b t
    | str b => obtain ⟨t, rfl⟩ := rx; exact SeqAt.EqAt.str_str a t' b t
    | _ => exact absurd (show false = true from fx) Bool.false_ne_true
  | _ => exact absurd (show false = true from fy) Bool.false_ne_true
/-- the items' answers, read off the values (a value's own answer does not lean on its token) -/
def eqU (x : V) (u : Value) : Bool := match u with
  | .none => eqV .non x
  | .bool b => eqV (.bl b) x
  | .int i _ => eqV (.int i) x
  | .str z _ => eqV (.str z) x
  | _ => false
theorem eqU_of {x y : V} {u : Value} (r : RelV y u) (f : flatV y = true) : eqU x u = eqV y x := by
  cases y with
  | non => cases r; rfl
  | bl b => cases r; rfl
  | int i => obtain ⟨t, rfl⟩ := r; rfl
  | str z => obtain ⟨t, rfl⟩ := r; rfl
  | _ => exact absurd (show false = true from f) Bool.false_ne_true
theorem any_eqU {x : V} : ∀ {xs : List V} {us : List Value}, Vals xs us → xs.all flatV = true → us.any (eqU x) = xs.any fun y => eqV y x
  | _, _, .nil, _ => rfl
  | y :: xs, u :: us, .cons r t, f => by
    rw [List.all_cons, Bool.and_eq_true] at f
    rw [List.any_cons, List.any_cons, eqU_of r f.1, any_eqU t f.2]
theorem mem_eqAt {A : Around} {s : Shared} {x : V} {v : Value} (rx : RelV x v) (fx : flatV x = true) : ∀ {xs : List V} {us : List Value}, Vals xs us → xs.all flatV = true → ∀ u ∈ us, SeqAt.EqAt A s u v (eqU x u)
  | _, _, .nil, _ => fun u hu => by cases hu
  | y :: xs, u :: us, .cons r t, f => fun u' hu => by
    rw [List.all_cons, Bool.and_eq_true] at f
    rcases List.mem_cons.mp hu with rfl | hu
    · rw [eqU_of r f.1]; exact eqAt_V r rx f.1 fx
    · exact mem_eqAt rx fx t f.2 u' hu
def inV (x : V) (xs : List V) : Bool := xs.any fun y => eqV y x
/-- x in a list or tuple of flat items -/
def rIn (K : PySem.W.Frag) (neg : Bool) : R2 := fun x y H Q => ∃ p xs, y = .ref p ∧ (SqL K H p xs ∨ SqT K H p xs) ∧ flatV x = true ∧ xs.all flatV = true ∧ Q (.bl (if neg then !inV x xs else inV x xs)) H
theorem op_in_seq : OpR X (compareOp .In) (rIn X.K false) := by
  intro pins s σ H x y v u Q I rx ry h
  obtain ⟨p, xs, rfl, hq, fx, fs, q⟩ := h
  cases ry
  rcases hq with hq | hq
  · obtain ⟨its, r, pl, hz⟩ := I.list hq
    refine SeqAt.in_listAt (eqU x) pl.isList (fun w hw => mem_eqAt rx fx r fs w (by simpa using hw)) ⟨.bl _, H, I, rfl, ?_⟩
    rw [show its.toArray.any (eqU x) = its.any (eqU x) by simp, any_eqU r fs]
    exact q
  · obtain ⟨its, r, pl, hz⟩ := I.tuple hq
    refine SeqAt.in_tupleAt (eqU x) pl (fun w hw => mem_eqAt rx fx r fs w (by simpa using hw)) ⟨.bl _, H, I, rfl, ?_⟩
    rw [show its.toArray.any (eqU x) = its.any (eqU x) by simp, any_eqU r fs]
    exact q
theorem op_notIn_seq : OpR X (compareOp .NotIn) (rIn X.K true) := by
  intro pins s σ H x y v u Q I rx ry h
  obtain ⟨p, xs, rfl, hq, fx, fs, q⟩ := h
  cases ry
  rcases hq with hq | hq
  · obtain ⟨its, r, pl, hz⟩ := I.list hq
    refine SeqAt.notIn_listAt (eqU x) pl.isList (fun w hw => mem_eqAt rx fx r fs w (by simpa using hw)) ⟨.bl _, H, I, rfl, ?_⟩
    rw [show its.toArray.any (eqU x) = its.any (eqU x) by simp, any_eqU r fs]
    exact q
  · obtain ⟨its, r, pl, hz⟩ := I.tuple hq
    refine SeqAt.notIn_tupleAt (eqU x) pl (fun w hw => mem_eqAt rx fx r fs w (by simpa using hw)) ⟨.bl _, H, I, rfl, ?_⟩
    rw [show its.toArray.any (eqU x) = its.any (eqU x) by simp, any_eqU r fs]
    exact q

/-! ### len, list(x), tuple(x) of any list or tuple that is read -/
theorem call_len_seq : CallR X (.builtin "len") (fun xs H Q => ∃ p ys, xs = [.ref p] ∧ (SqL X.K H p ys ∨ SqT X.K H p ys) ∧ Q (.int ys.length) H) := by
  intro pins s σ H xs us Q I r h
  obtain ⟨p, ys, rfl, hq, q⟩ := h
  obtain ⟨u, rfl, rx⟩ := vals1 r
  cases rx
  have hn := line63
  rcases hq with hq | hq
  · obtain ⟨its, r', pl, hz⟩ := I.list hq
    have hlen := r'.length
    exact Calls.call_len_list pl.isList (by simp only [List.size_toArray] <;> omega) ⟨.int ys.length, H, I.tok _, ⟨s.toks + 1, by rw [List.size_toArray, hlen]⟩, q⟩
  · obtain ⟨its, r', pl, hz⟩ := I.tuple hq
    have hlen := r'.length
    exact len_tuple pl (by simp only [List.size_toArray] <;> omega) ⟨.int ys.length, H, I.tok _, ⟨s.toks + 1, by rw [List.size_toArray, hlen]⟩, q⟩
theorem call_list_of : CallR X (.type "list") (fun xs H Q => ∃ p ys, xs = [.ref p] ∧ (SqL X.K H p ys ∨ SqT X.K H p ys) ∧ ∀ l, H l = none → Q (.ref l) (upd H l (.lst ys))) := by
  intro pins s σ H xs us Q I r h
  obtain ⟨p, ys, rfl, hq, q⟩ := h
  obtain ⟨u, rfl, rx⟩ := vals1 r
  cases rx
  have fin : ∀ (its : List Value), Vals ys its → ys.length ≤ sizeLine → ∀ (h' : Heap) (c' : Nat), (∀ b o', s.heap.get? b = some o' → h'.get? b = some o') →
      h'.get? s.heap.objs.size = some { cls := .type "list", dict := none, data := .seq its.toArray c', slots := #[] } → EP X pins σ Q (.ref s.heap.objs.size) { s with heap := h' } := fun its r' hz h' c' kp e =>
    ⟨.ref s.heap.objs.size, _, I.laid (t' := s.toks) kp (Nat.le_refl _) (show ObjOk X.prog X.w _ h' _ (.lst ys) from ⟨hz, its, c', r', e⟩), rfl, q _ (I.hok.fresh (Nat.le_refl _))⟩
  rcases hq with hq | hq
  · obtain ⟨its, r', pl, hz⟩ := I.list hq
    have hlen := r'.length
    obtain ⟨o, ho, hc, n, hd⟩ := pl.isList
    exact call_list_seq p (.inl rfl) ho hc hd (fun h' c' kp e => fin its r' hz h' c' kp e) (by simp only [List.size_toArray] <;> omega)
  · obtain ⟨its, r', pl, hz⟩ := I.tuple hq
    have hlen := r'.length
    obtain ⟨o, ho, hc, n, hd⟩ := pl
    exact call_list_seq p (.inr rfl) ho hc hd (fun h' c' kp e => fin its r' hz h' c' kp e) (by simp only [List.size_toArray] <;> omega)

/-! ### the call of a builtin's method: o.m(..) -/
/-- the value is of that builtin type -/
def tyV (K : PySem.W.Frag) (T : String) (x : V) (H : Hp) : Prop := match x with
  | .str _ => T = "str"
  | .int _ => T = "int"
  | .ref p => (T = "list" ∧ ∃ xs, SqL K H p xs) ∨ (T = "tuple" ∧ ∃ o, K.lookup p = some o ∧ o.cls = .type "tuple" ∧ o.dict = none) ∨
      (T = "dict" ∧ ((∃ kvs, H p = some (.dK kvs)) ∨ ∃ kvs, H p = some (.dT kvs))) ∨ (T = "set" ∧ ∃ S n, H p = some (.set S n))
  | _ => False
theorem tyV_is {pins : List (Addr × Obj)} {σ : St} {H : Hp} {s : Shared} {T : String} {x : V} {v : Value} (I : Inv X pins σ H s) (r : RelV x v) (ty : tyV X.K T x H) :
    s.TypeIs v T ∧ ∀ a, v = .ref a → ∃ ob, s.heap.get? a = some ob ∧ ob.dict = none := by
  cases x with
  | str z =>
    obtain ⟨t, rfl⟩ := r
    cases (show T = "str" from ty)
    exact ⟨typeIs_str s z t, fun _ e => nomatch e⟩
  | int i =>
    obtain ⟨t, rfl⟩ := r
    cases (show T = "int" from ty)
    exact ⟨typeIs_int s i t, fun _ e => nomatch e⟩
  | ref p =>
    cases r
    rcases ty with ⟨rfl, xs, hq⟩ | ⟨rfl, o, hk, hc, hd⟩ | ⟨rfl, hk⟩ | ⟨rfl, S, n, hk⟩
    · obtain ⟨its, _, pl, _⟩ := I.list hq
      refine ⟨pl.isList.typeIs, fun a e => ?_⟩
      cases e
      obtain ⟨o, n, e, c, hd, _⟩ := pl
      exact ⟨o, e, hd⟩
    · refine ⟨⟨o, I.kIn p o hk, hc⟩, fun a e => ?_⟩
      cases e
      exact ⟨o, I.kIn _ o hk, hd⟩
    · have z : ∃ o, s.heap.get? p = some o ∧ o.ExactDict := by
        rcases hk with ⟨kvs, hk⟩ | ⟨kvs, hk⟩
        · obtain ⟨_, _, _, _, o, _, _, e, ex, _⟩ := I.hok p _ hk
          exact ⟨o, e, ex⟩
        · obtain ⟨_, _, _, _, o, _, _, e, ex, _⟩ := I.hok p _ hk
          exact ⟨o, e, ex⟩
      obtain ⟨o, e, ex⟩ := z
      refine ⟨⟨o, e, ex.1⟩, fun a e2 => ?_⟩
      cases e2
      exact ⟨o, e, ex.2.1⟩
    · obtain ⟨o, _, _, _, e, ex, _⟩ := I.hok p _ hk
      refine ⟨⟨o, e, ex.1⟩, fun a e2 => ?_⟩
      cases e2
      exact ⟨o, e, ex.2.1⟩
  | _ => exact False.elim ty
def tBM (K : PySem.W.Frag) (T : String) (r : V → List V → Hp → VK → Prop) (to : TE) (t : TA) : TE := fun σ H Q => to σ H fun x H1 => tyV K T x H1 ∧ t σ H1 fun xs H2 => r x xs H2 Q
variable {o e : Expr} {es : List Expr} {to : TE} {t : TA} {name : Str} {apos cpos : Pos} {T id : String} {r : V → List V → Hp → VK → Prop}
theorem pe_bm (pa : PlainAttrs T) (slot : Slot T name id) (hty : typeOf (.builtin id) = pure (.type "method_descriptor")) (hm : MtR X id r) (ho : PE X o to) (ha : PA X (e :: es) t)
    (hbase : attributeBase o name X.env (eval o X.env) = eval o X.env := by rfl)
    (hfew : ((backTo cpos (starEach (e :: es) X.env)).all (fun x => !x.1) && (backToKw cpos (keywordEach [] X.env)).all (fun x => x.1.isSome)
      && decide ((e :: es).length + ([] : List Keyword).length + (if ([] : List Keyword).isEmpty then 0 else 1) < 30)) = true := by rfl)
    (hline : (apos.endLine == cpos.line) = true := by rfl) (hs : starEach (e :: es) X.env = (false, eval e X.env) :: starEach es X.env := by rfl) (hplain : (backTo cpos (starEach es X.env)).any (·.1) = false := by rfl) :
    PE X (.Call (.Attribute o name apos) (e :: es) [] cpos) (tBM X.K T r to t) := by
  intro pins s σ H Q I h
  refine wpAny_Call_method_late hbase hfew hline rfl (thn (ho pins s σ H _ I h) fun v s1 ⟨x, H1, I1, r1, ty, q1⟩ => ?_)
  obtain ⟨h1, h2⟩ := tyV_is I1 r1 ty
  refine ⟨T, id, pa, slot, hty, h1, h2, ?_⟩
  have hA := ha cpos pins s1 σ H1 _ I1 q1
  rw [hs] at hA ⊢
  refine Calls.callWith_builtin (by show (false || (backTo cpos (starEach es X.env)).any (·.1)) = false; rw [hplain] <;> rfl) (Calls.evalArgs_plain ?_)
  exact thn hA fun us s2 ⟨vs, H2, I2, r2, q2⟩ => hm pins s2 σ H2 x vs v us Q I2 r1 r2 q2
/- xs.append(e), list.index on a module's tuple .. are MtR facts of 06m -/
end
end L2

namespace L2
open PySem PySem.Spec PyProof.Rows

def MtM (X : Cx) (id : String) (r : V → List V → Hp → VK → Prop) : Prop :=
  ∀ (pins : List (Addr × Obj)) (s : Shared) (σ : St) (H : Hp) (x : V) (xs : List V) (v : Value) (us : List Value) (Q : VK), Inv X pins σ H s → RelV x v → Vals xs us → r x xs H Q →
    wpAny (model X.prog X.w) X.A (call (.builtin id) (v :: us)) (EP X pins σ Q) X.xe s

/-! ### lists of values -/
theorem Vals.one : ∀ {x : V} {us : List Value}, Vals [x] us → ∃ u, us = [u] ∧ RelV x u
  | _, _, .cons r .nil => ⟨_, rfl, r⟩
theorem Vals.two : ∀ {x y : V} {us : List Value}, Vals [x, y] us → ∃ u v, us = [u, v] ∧ RelV x u ∧ RelV y v
  | _, _, _, .cons r (.cons q .nil) => ⟨_, _, rfl, r, q⟩
theorem Vals.rep {xs : List V} {us : List Value} (h : Vals xs us) : ∀ k : Nat, Vals (List.replicate k xs).flatten (List.replicate k us).flatten
  | 0 => .nil
  | k + 1 => by
    rw [List.replicate_succ, List.replicate_succ, List.flatten_cons, List.flatten_cons]
    exact Vals.append h (Vals.rep h k)
theorem foldl_rep (its : List Value) : ∀ (k : Nat) (acc : List Value),
    List.foldl (fun x1 x2 => x1 ++ x2) acc.toArray (List.replicate k its.toArray) = (acc ++ (List.replicate k its).flatten).toArray
  | 0, acc => by simp
  | k + 1, acc => by
    have e : acc.toArray ++ its.toArray = (acc ++ its).toArray := by simp
    have e2 : (acc ++ its) ++ (List.replicate k its).flatten = acc ++ (List.replicate (k + 1) its).flatten := by
      rw [List.replicate_succ, List.flatten_cons, List.append_assoc]
    rw [← e2, ← foldl_rep its k (acc ++ its), ← e, List.replicate_succ, List.foldl_cons]

section
variable {X : Cx} {pins : List (Addr × Obj)} {σ : St} {H : Hp} {s : Shared} {l b : Addr} {xs ys zs : List V}

/-! ### the two steps: a tracked list is rewritten, a new list is laid -/
theorem Inv.lset {its its' : List Value} {n : Nat} {f : Array Value → Array Value} {t' : Nat} (I : Inv X pins σ H s) (hH : H l = some (.lst xs))
    (e : s.heap.get? l = some { cls := .type "list", data := .seq its.toArray n }) (hf : f its.toArray = its'.toArray) (hv : Vals ys its') (hz : ys.length ≤ sizeLine) :
    Inv X pins σ (upd H l (.lst ys)) { s with heap := s.heap.update l (Obj.mapSeq f), toks := t' } := by
  have q := PySem.IsL.update e f
  rw [hf] at q
  refine I.write (x := l) (e := l) (by rw [hH]; exact trivial) (.inl rfl) (fun b' u hb hu => (Heap.get?_update_other s.heap (Obj.mapSeq f) (Ne.symm hb)).trans hu) ⟨_, q⟩ ?_
  exact ⟨hz, its', _, hv, q⟩
theorem Inv.lnew {its : List Value} {t' : Nat} (I : Inv X pins σ H s) (hv : Vals ys its) (hz : ys.length ≤ sizeLine) :
    Inv X pins σ (upd H s.heap.objs.size (.lst ys)) { s with heap := s.heap.push { cls := .type "list", data := .seq its.toArray }, toks := t' } :=
  I.laid (fun _ _ q => Heap.get?_push_of_some _ q) (Nat.le_refl _) ⟨hz, its, 0, hv, Heap.get?_push_size _ rfl⟩
theorem Inv.fresh (I : Inv X pins σ H s) : H s.heap.objs.size = none := I.hok.fresh (Nat.le_refl _)
theorem Inv.lstM (I : Inv X pins σ H s) (hH : H l = some (.lst xs)) : xs.length ≤ sizeLine ∧ ∃ (its : List Value) (n : Nat), Vals xs its ∧ xs.length = its.length ∧ s.heap.get? l = some { cls := .type "list", data := .seq its.toArray n } := by
  obtain ⟨z, its, n, r, e⟩ := I.hok l _ hH
  exact ⟨z, its, n, r, r.length, e⟩

theorem notLongL {n : Nat} (h : n ≤ sizeLine) : Builtin.List.listTooLong n = false := by
  unfold Builtin.List.listTooLong
  exact decide_eq_false (by omega)
end

section
variable {X : Cx}

/-! ### methods -/
def rAppend : V → List V → Hp → VK → Prop := fun x vs H Q => ∃ l xs y, x = .ref l ∧ vs = [y] ∧ H l = some (.lst xs) ∧ xs.length < sizeLine ∧ Q .non (upd H l (.lst (xs ++ [y])))
theorem mt_append : MtM X "list.append" rAppend := by
  intro pins s σ H x vs v us Q I rx rv h
  obtain ⟨l, xs, y, rfl, rfl, hH, hz, q⟩ := h
  cases rx
  obtain ⟨u, rfl, ru⟩ := rv.one
  obtain ⟨z, its, n, r, hl, e⟩ := I.lstM hH
  refine call_meets F.slot_list_append ⟨_, e, rfl⟩ F.entry_list_append (F.args_list_append_2 _ _) (PySem.list_append l its.toArray n u (by rw [List.size_toArray]; omega)) ⟨e, ?_⟩
  refine ⟨.non, _, I.lset (its' := its ++ [u]) hH e (by simp) (r.append (.cons ru .nil)) ?_, rfl, q⟩
  rw [List.length_append, List.length_singleton]
  omega

def rExtend : V → List V → Hp → VK → Prop := fun x vs H Q => ∃ l b xs zs, x = .ref l ∧ vs = [.ref b] ∧ H l = some (.lst xs) ∧ H b = some (.lst zs) ∧ xs.length + zs.length ≤ sizeLine ∧ Q .non (upd H l (.lst (xs ++ zs)))
theorem mt_extend : MtM X "list.extend" rExtend := by
  intro pins s σ H x vs v us Q I rx rv h
  obtain ⟨l, b, xs, zs, rfl, rfl, hH, hB, hz, q⟩ := h
  cases rx
  obtain ⟨u, rfl, ru⟩ := rv.one
  cases ru
  obtain ⟨z, its, n, r, hl, e⟩ := I.lstM hH
  obtain ⟨z2, its2, n2, r2, hl2, e2⟩ := I.lstM hB
  have hsz : its.toArray.size + its2.toArray.size ≤ sizeLine := by rw [List.size_toArray, List.size_toArray]; omega
  have hlong : ¬ (!its.toArray.isEmpty && Builtin.List.listTooLong (its.toArray.size + its2.toArray.size)) = true := by
    rw [notLongL hsz, Bool.and_false]
    exact Bool.false_ne_true
  refine call_meets F.slot_list_extend ⟨_, e, rfl⟩ F.entry_list_extend (F.args_list_extend_2 _ _)
    (AutoSeq1.list_extend_list_list_0 l its.toArray n b its2.toArray n2 hlong (by rw [List.size_toArray]; omega) (by omega)) ⟨e, e2, ?_⟩
  refine ⟨.non, _, I.lset (its' := its ++ its2) hH e (by simp) (r.append r2) ?_, rfl, q⟩
  rw [List.length_append]
  omega





/-! ### list + list, list += list, list * int -/
/-- a list times an int (a negative one is nothing) -/
def rRep : R2 := fun x y H Q => ∃ l k xs, x = .ref l ∧ y = .int k ∧ H l = some (.lst xs) ∧ -(2 ^ 63) ≤ k ∧ k < 2 ^ 63 ∧ xs.length * k.toNat ≤ sizeLine ∧
  ∀ p, H p = none → Q (.ref p) (upd H p (.lst (List.replicate k.toNat xs).flatten))
theorem len_rep {α : Type} (xs : List α) (k : Nat) : (List.replicate k xs).flatten.length = k * xs.length := by
  induction k with
  | zero => simp
  | succ k ih => rw [List.replicate_succ, List.flatten_cons, List.length_append, ih, Nat.succ_mul, Nat.add_comm]
theorem op_rep : OpR X (binaryOp .Mult) rRep := by
  intro pins s σ H x y v u Q I rx ry h
  obtain ⟨l, k, xs, rfl, rfl, hH, h1, h2, hz, q⟩ := h
  cases rx
  obtain ⟨t, rfl⟩ := ry
  obtain ⟨z, its, n, r, hl, e⟩ := I.lstM hH
  have hlen : its.toArray.size * k.toNat ≤ sizeLine := by rw [List.size_toArray, ← hl]; exact hz
  have hcap : ¬ its.toArray.size * k.toNat > (2 ^ 63 - 1) / 8 := by
    have : (sizeLine : Nat) ≤ (2 ^ 63 - 1) / 8 := by decide
    omega
  have hfit : ¬ (!Builtin.List.listFitsIndex k) = true := by
    rw [fitsIndex_both h1 h2]
    exact Bool.false_ne_true
  have hlong : ¬ Builtin.List.listTooLong (its.toArray.size * k.toNat) = true := by
    rw [notLongL hlen]
    exact Bool.false_ne_true
  have hnew : List.foldl (fun x1 x2 => x1 ++ x2) #[] (List.replicate (if its.toArray.isEmpty = true then 0 else k.toNat) its.toArray) = (List.replicate k.toNat its).flatten.toArray := by
    have f0 : ∀ m : Nat, List.foldl (fun x1 x2 => x1 ++ x2) #[] (List.replicate m its.toArray) = (List.replicate m its).flatten.toArray := fun m => by
      have := foldl_rep its m []
      rw [List.nil_append] at this
      exact this
    rw [f0]
    cases its with
    | nil => simp
    | cons a r' => rw [if_neg (by simp)]
  refine wpAny_binaryOp_repeat_ref (T := "list") (U := "int") (by decide) ⟨_, e, rfl⟩ (fun s' => typeIs_int s' k t) noFill_list_mul F.fills_int_mul F.slot_int_rmul repeat_list F.slot_int_index.lookup
    (call_meets F.slot_int_rmul (typeIs_int s k t) F.entry_int_rmul (F.args_int_rmul_2 _ _) (int___rmul___int_list k t l its.toArray n)
      ⟨e, rfl, ⟨_, e, rfl⟩, call_meets F.slot_list_mul ⟨_, e, rfl⟩ F.entry_list_mul (F.args_list_mul_2 _ _) (AutoListH.list___mul___list_int_3 l its.toArray n k t hfit hcap hlong) ⟨e, ?_⟩⟩)
  rw [hnew]
  exact ⟨.ref _, _, I.lnew (t' := s.toks) (r.rep k.toNat) (by rw [len_rep, Nat.mul_comm]; exact hz), rfl, q _ I.fresh⟩

/-! ### del xs[i] -/
end

/-! ### xs[a:b] = ys -/
section
variable {prog : Program} {w : World} {A : Around} {E : Value → Shared → Prop} {s : Shared}
set_option maxRecDepth 100000 in
end

section
variable {X : Cx}
end
end L2

namespace L2
open PySem PySem.Spec PyProof.Rows

/-! ### lists of pairs as tables -/
section
variable {κ : Type} [DecidableEq κ]



end


/-! ### a tracked dict, its keys ints and texts or tuples of these -/


section
variable {P : Program} {w : World} {H : Hp} {h : Heap} {a : Addr}
end



section
variable {X : Cx} {pins : List (Addr × Obj)} {σ : St} {H : Hp} {s : Shared} {a : Addr} {y v : V} {u r : Value} {o : Option V} {A : Around} {E : Value → Shared → Prop}


end

section
variable {X : Cx} {pins : List (Addr × Obj)} {σ : St} {H : Hp} {s : Shared} {a : Addr} {kvs : List (Key × V)} {k : Key} {u : Value} {A : Around} {E : Value → Shared → Prop}
end


/-! ### readings and rules -/



section
variable {X : Cx} {o i e value : Expr} {pos pos' tpos : Pos} {td ty tv : TE}
end


/-! ### displays -/
section
variable {X : Cx} {pos : Pos}
end




/-! ### methods -/


section
variable {X : Cx} {pins : List (Addr × Obj)} {σ : St} {H : Hp} {s : Shared} {a : Addr} {y d : V} {u r : Value} {o : Option V} {A : Around} {E : Value → Shared → Prop}
end

section
variable {X : Cx} {o e f : Expr} {apos cpos : Pos} {td ty tx : TE}
end

/-! ### dict(d): a copy -/
section
variable {X : Cx} {pins : List (Addr × Obj)} {σ : St} {H : Hp} {s : Shared} {a : Addr} {kvs : List (Key × V)} {A : Around} {E : Value → Shared → Prop}
end


section
variable {X : Cx} {pins : List (Addr × Obj)} {σ : St} {H : Hp} {s : Shared} {a : Addr} {y : V} {u : Value} {A : Around} {E : Value → Shared → Prop}
end
end L2

namespace Att
open PySem PySem.W PySem.Calls PyProof.Rows

/-! ### the script -/
theorem ints_of_wellAll {P : Params} {h : Heap} : ∀ (ns : List Int) (vs : List Value), WellAll P h vs (ns.map WData.int) → IntsAre vs ns := by
  intro ns
  induction ns with
  | nil =>
    intro vs w
    rw [List.map_nil] at w
    cases w
    exact .nil
  | cons n ns ih =>
    intro vs w
    rw [List.map_cons] at w
    cases w with
    | cons a b =>
      cases a
      exact .cons _ _ (ih _ b)

theorem script_of {l : OpenLaw} {n : Nat} (hn : l.most = some n) {P : Params} {h : Heap} {args : List WData} {vals : List Value}
    (hpre : l.row.toRowW.claim.pre args = true) (hwl : WellAll P h vals args) :
    ∃ a vs ns, vals = [Value.ref a] ∧ args = [WData.list (ns.map WData.int)] ∧ h.get? a = some { cls := .type "list", data := .seq vs.toArray } ∧ IntsAre vs ns ∧ ns.length ≤ n := by
  have hsh : WShape.hasAll [] args [.list .int] = true := (pre_splitW hpre).1
  have hc : l.pre.holds [] { args := args } = true := (pre_splitW hpre).2
  obtain ⟨d, r, rfl, h1, h2⟩ := hasAllW_cons hsh
  obtain rfl := hasAllW_nil h2
  obtain ⟨xs, rfl, h3⟩ := hasW_list h1
  obtain ⟨ns, rfl⟩ := items_int h3
  have hlen : ns.length ≤ n := by
    unfold OpenLaw.pre at hc
    have h4 : (WTm.not (.lt (.lit (.int (n : Int))) (.len (.arg 0)))).holds [] { args := [.list (ns.map .int)] } = true := by
      have h4 := (holds_andW hc).1
      rw [hn] at h4
      exact h4
    have h5 := condW_of h4 (w_not (w_lt w_lit (w_len_list (w_arg rfl))))
    rw [List.length_map] at h5
    refine Nat.le_of_not_lt fun q => ?_
    have q' : (n : Int) < ((ns.length : Nat) : Int) := by omega
    first
      | (rw [decide_eq_true q'] at h5; exact absurd h5 (by decide))
      | (simp at h5; omega)
  cases hwl with
  | cons w1 w2 =>
    cases w2
    cases w1 with
    | list ho hall => exact ⟨_, _, ns, rfl, rfl, ho, ints_of_wellAll ns _ hall, hlen⟩

theorem post_true (l : OpenLaw) (args : List WData) : l.row.toRowW.claim.post args (.bool true) args = true :=
  postW_of (r := l.row.toRowW) (X := (true == true))
    (show WShape.has [] (.bool true) .bool = true by first | rfl | decide | simp [WShape.has, WShape.arms, WShape.armsAll])
    (show (WTm.eq .res (.lit (.bool true))).value [] { args := args, res := some (.bool true), after := args } = some (.bool (true == true)) from w_eq_bool (w_res rfl) w_lit) rfl

/-! ### the attachment: holds_open's last premise (the goal 'hc' behind k_head) from a wpAny of the law's body -/

/-- the same from a codeAny of the CALL (for a layer whose function contracts speak of calls) -/
theorem attach_call {l : OpenLaw} {n : Nat} {q : Program} {loose : List Str} {XP : (Str → Option Value) → Heap → Prop} {YP : World → Heap → Prop} {d : DefRec}
    (hn : l.most = some n) (hdf : d.params.defaults = [])
    (call : ∀ (w : World) (s₀ s₁ : Shared) (mg mb : Str → Option Value) (fa : Addr) (o : Obj) (pm cd doc : Value) (a : Addr) (vs : List Value) (ns : List Int),
      Ground q loose [] XP w s₀ mg mb s₁.heap → YP w s₁.heap →
      s₁.heap.get? fa = some o → o.data = .func (docDef d.name d.params d.body d.scope pm cd doc) → s₁.heap.CodeRec cd d.name → mg d.name = some (.ref fa) →
      s₁.heap.get? a = some { cls := .type "list", data := .seq vs.toArray } → IntsAre vs ns → ns.length ≤ n → s₁.gens = #[] →
      codeAny (model l.prog w) callerA (.call (.ref fa) ⟨[.ref a], []⟩) (fun r s' => r = .ok (.ret (.bool true)) ∧ OldK s₁.heap s'.heap ∧ s'.os = s₁.os ∧ AllBare s'.gens) s₁) :
    WalkO q loose XP YP l.row.toRowW d [] (fun f vs => PySem.call f vs) := by
  intro w s₀ s₁ mg mb G Y fa o pm cd doc dV kV ho hd hcd hD hmg hg args vals as hpre hlay hrd hwl hlo
  obtain rfl : dV = .none := Dflts.none hD hdf
  obtain rfl : kV = .none := Dflts.noKw hD
  obtain ⟨a, vs, ns, rfl, rfl, hobj, hints, hlen⟩ := script_of hn hpre hwl
  refine enter_call (codeAny_mono (call w s₀ s₁ mg mb fa o pm cd doc a vs ns G Y ho (fd_plain hd) hcd hmg hobj hints hlen hg) fun r s' hq => ?_)
  obtain ⟨rfl, h2, h3, h4⟩ := hq
  exact ⟨.inl ⟨.bool true, .bool true, [], rfl, fun _ => rfl, .bool true, post_true l _, fun _ => ⟨List.Pairwise.nil, fun _ hm => (nomatch hm)⟩⟩, h2, h3, h4⟩


/-! ### rules over ANY heap (no ledger) from facts about the written part K: the library's own take a ledger (News) for what they write -/
section
variable {prog : Program} {w : World} {A : Around} {E : Value → Shared → Prop} {s : Shared} {K : Frag}





/-! the whole heap as the ledger: makes every rule that writes through a ledger a rule over any heap -/

end
end Att

namespace L2
open PySem PySem.Spec PyProof.Rows

theorem vals_ints : ∀ {vs : List Value} {ns : List Int}, IntsAre vs ns → Vals (ns.map V.int) vs
  | _, _, .nil => .nil
  | _, _, .cons n t h => .cons ⟨t, rfl⟩ (vals_ints h)

/-- nothing is tracked but the script, known to the object (or it is an object of the module) -/
def Only (H : Hp) : Prop := ∀ b, H b = none ∨ ∃ o xs, H b = some (.frz o (.lst xs))

/-- THE HEAD: the law's promise, at the heap behind the top. F, the promise of the law's def, may use that base is part of the heap (so K.In base, base.Ns mainGlobals mg stand in Mod) -/
theorem law_call {P : Program} {w : World} {K : PySem.W.Frag} {mg mb : Str → Option Value} {CX : CXT} {k : Nat} {fa a : Addr} {fd : FuncData} {x : Str} {sp : Sp} {s₁ : Shared} {vs : List Value} {ns : List Int}
    (KX : K.In s₁.heap) (hns : s₁.heap.Ns mainGlobals mg) (hb : s₁.heap.Ns builtinsNs mb) (hbb : ∀ x : Str, x ≠ "__name__" → mb x = bootBuiltins x) (hlim : s₁.heap.NoLimit) (hg : s₁.gens = #[])
    (ha : s₁.heap.get? a = some { cls := .type "list", data := .seq vs.toArray }) (hi : IntsAre vs ns) (hl : ns.length ≤ sizeLine) (hr : Room k callerA)
    (F : ∀ base : Heap, K.In base → base.Ns mainGlobals mg → FnOk P w K mg base CX k fa fd [x] sp) (hbind : ∀ (s : Shared) (u : Value), BindsTo s fd ⟨[u], []⟩ [(x, u)])
    (hsp : ∀ H : Hp, Only H → SqL K H a (ns.map V.int) → sp [.ref a] H (fun v _ => v = .bl true) fun _ _ _ => False)
    (hCX : ∀ H e s', CX [] H s₁ (fun _ _ _ => False) e s' → False) :
    codeAny (model P w) callerA (.call (.ref fa) ⟨[.ref a], []⟩) (fun r s' => r = .ok (.ret (.bool true)) ∧ OldK s₁.heap s'.heap ∧ s'.os = s₁.os ∧ AllBare s'.gens) s₁ := by
  have rv := vals_ints hi
  have lenV := hi.length
  -- from an abstract heap in which nothing but the script may be tracked
  have core : ∀ H : Hp, Only H → SqL K H a (ns.map V.int) → HOk P w H s₁.heap → (∀ b, H b ≠ none → b = a) → (H a ≠ none → K.lookup a = none) →
      codeAny (model P w) callerA (.call (.ref fa) ⟨[.ref a], []⟩) (fun r s' => r = .ok (.ret (.bool true)) ∧ OldK s₁.heap s'.heap ∧ s'.os = s₁.os ∧ AllBare s'.gens) s₁ := by
    intro H hO hS hok hA hK
    have base_of : ∀ {b : Addr} {o : Obj}, s₁.heap.get? b = some o → H b = none → (hidT s₁.heap H).get? b = some o := fun e n => hidT_get e n
    have noA : ∀ {b : Addr} {o : Obj} {es : Array DictEntry} {ep : Nat}, s₁.heap.get? b = some o → o.data = .dict es ep → H b = none := fun {b o es ep} e d => by
      cases q : H b with
      | none => rfl
      | some u =>
        have e' : b = a := hA b (by rw [q]; simp)
        subst e'
        rw [ha] at e; cases e
        have d' : Data.seq vs.toArray _ = Data.dict es ep := d
        cases d'
    have nsK : ∀ {b : Addr} {m : Str → Option Value}, s₁.heap.Ns b m → (hidT s₁.heap H).Ns b m := fun {b m} ⟨o, es, ep, e, d, r⟩ => ⟨o, es, ep, base_of e (noA e d), d, r⟩
    have hKb : K.In (hidT s₁.heap H) := fun b o e => base_of (KX b o e) (by
      cases q : H b with
      | none => rfl
      | some u =>
        have e' : b = a := hA b (by rw [q]; simp)
        subst e'
        rw [hK (by rw [q]; simp)] at e; cases e)
    have hM : Mod K mg (hidT s₁.heap H) := ⟨hKb, nsK hns, ⟨mb, nsK hb, hbb⟩, let ⟨mc, h1, h2⟩ := hlim; ⟨mc, nsK h1, h2⟩⟩
    have e0 : Env0 P w K mg (hidT s₁.heap H) callerA [] s₁ H := ⟨rfl, hM, fun b o e => of_hidT e, Nat.le_of_eq (hidT_size _ _), trivial, fun b hb => absurd (show b ∈ ([] : List Addr) from hb) (by simp), hok, .of_eq hg⟩
    refine codeAny_mono ((F _ hKb (nsK hns)).run callerA [] s₁ H ⟨[.ref a], []⟩ [.ref a] [.ref a] _ _ hr e0 (hbind s₁ (.ref a)) (.cons rfl .nil) (hsp H hO hS)) fun r s' h => ?_
    cases r with
    | error e => exact (hCX H e s' h).elim
    | ok fl =>
      cases fl with
      | next => exact False.elim h
      | brk => exact False.elim h
      | cont => exact False.elim h
      | ret u =>
        obtain ⟨v, H', os, bare, un, hok', r', q⟩ := h
        have q' : v = .bl true := q
        subst q'
        obtain rfl : u = Value.bool true := r'
        refine ⟨rfl, OldK.of_keep fun b o e => ?_, os, bare⟩
        cases q : H b with
        | none => exact un.keep b o e q (by intro z; exact absurd (show b ∈ ([] : List Addr) from z) (by simp)) (by simp)
        | some u =>
          rcases hO b with z | ⟨ob, xs, z⟩
          · rw [q] at z; cases z
          · have z2 := un.frzs b ob _ z
            obtain ⟨e1, _⟩ := hok b _ z
            obtain ⟨e2, _⟩ := hok' b _ z2
            rw [e] at e1; cases e1
            exact e2
  cases hk : K.lookup a with
  | some o =>
    -- the script is one of the module's own objects
    have e := KX a o hk
    rw [ha] at e
    cases e
    refine core (fun _ => none) (fun _ => .inl rfl) (.inr ⟨_, vs.toArray, _, hk, rfl, rfl, rfl, by rw [List.size_toArray, lenV]; exact hl, by simpa using rv⟩) (fun b u z => by have z' : (none : Option HO) = some u := z; cases z') (fun b z => absurd rfl z) fun z => absurd rfl z
  | none =>
    refine core (fun b => if b = a then some (.frz { cls := .type "list", data := .seq vs.toArray } (.lst (ns.map V.int))) else none) (fun b => ?_) (.inl (.inr ⟨{ cls := .type "list", data := .seq vs.toArray }, if_pos rfl⟩)) (fun b u z => ?_) (fun b z => ?_) fun _ => hk
    · by_cases hb : b = a
      · exact .inr ⟨_, _, if_pos hb⟩
      · exact .inl (if_neg hb)
    · by_cases hb : b = a
      · have z' := (if_pos hb).symm.trans z
        cases z'
        subst hb
        exact ⟨ha, by rw [List.length_map]; exact hl, vs, _, rv, ha⟩
      · have z' := (if_neg hb).symm.trans z
        cases z'
    · by_cases hb : b = a
      · exact hb
      · exact absurd (if_neg hb) z
end L2

namespace L2
open PySem PySem.Spec PyProof.Rows


/-- the goal that k_head leaves (case hc), from the law's promise. F gives the function object fd (K's own) once, then the promise over every base -/
theorem walk_of {l : PySem.W.OpenLaw} {n k : Nat} {q : Program} {loose : List Str} {XP : (Str → Option Value) → Heap → Prop} {YP : World → Heap → Prop} {d : DefRec} {K : Params → PySem.W.Frag} {CX : World → CXT} {sp : World → Sp} {x : Str}
    (hn : l.most = some n) (hn2 : n ≤ sizeLine) (hdf : d.params.defaults = []) (hr : Room k callerA)
    (hY : ∀ (w : World) (h : Heap), YP w h → (K w.params).In h)
    (F : ∀ (w : World) (mg : Str → Option Value) (fa : Addr) (h : Heap), (K w.params).In h → h.Ns mainGlobals mg → mg d.name = some (.ref fa) →
      ∃ fd : FuncData, (∀ (s : Shared) (u : Value), BindsTo s fd ⟨[u], []⟩ [(x, u)]) ∧
        ∀ base : Heap, (K w.params).In base → base.Ns mainGlobals mg → FnOk l.prog w (K w.params) mg base (CX w) k fa fd [x] (sp w))
    (hsp : ∀ (w : World) (H : Hp) (a : Addr) (ns : List Int), ns.length ≤ n → Only H → SqL (K w.params) H a (ns.map V.int) → sp w [.ref a] H (fun v _ => v = .bl true) fun _ _ _ => False)
    (hCX : ∀ (w : World) (H : Hp) (s : Shared) (e : Value) (s' : Shared), CX w [] H s (fun _ _ _ => False) e s' → False) :
    PySem.W.WalkO q loose XP YP l.row.toRowW d [] (fun f vs => PySem.call f vs) := by
  refine Att.attach_call hn hdf fun w s₀ s₁ mg mb fa o pm cd doc a vs ns G Y ho hd hcd hmg hobj hints hlen hg => ?_
  have KX := hY w _ Y
  obtain ⟨fd, hb, hF⟩ := F w mg fa _ KX G.T.g hmg
  exact law_call KX G.T.g G.T.b G.T.builtins G.T.nolimit hg hobj hints (Nat.le_trans hlen hn2) hr hF hb (fun H hO hS => hsp w H a ns hlen hO hS) fun H e s' => hCX w H s₁ e s'
end L2

/- THE LAST THEOREM (shape; LID, My.* are yours):
   My.Adr: a structure of the addresses that your layer names (classes, functions); My.Txt K t: a structure (Prop) of the equations over K;
   My.txt_mk : {K} {implicit addresses ..} (e1 : nsIn K mainGlobals "law" = some (some (.ref f))) (e2 : K.lookup f = some ⟨oc, od, .func (fnOf "law" "law" params body scope dV kV doc pm an cdv ct), sl⟩) (e3 : codeIn K cdv "law" = true) .. : ∃ t, My.Txt K t

set_option maxRecDepth 100000 in
set_option maxHeartbeats 0 in
theorem PySem.Challenge.cw_LID_holds : PySem.Challenge.rw_LID.Holds := by
  w_on; o_law; k_head; (case hw => w_witness2)
  k_fill
  refine L2.walk_of (l := PySem.Challenge.rw_LID) (n := 63) (k := 40) (x := "script") (CX := fun w => ..) (sp := fun _ => My.sp_law) rfl (by decide) rfl ⟨rfl, by decide, by decide⟩ (fun w h Y => PySem.W.kIn_of Y) ?F ?S ?C
  case F =>
    intro w mg fa h KX G hmg
    have T : ∃ t, My.Txt (L2.KOf KX) t := by
      dsimp only [L2.KOf]                          -- K must stand as «<heap const> w.params» for k_is
      refine' My.txt_mk ?e1 ?e2 ?e3 ..
      (case e1 => PySem.W.k_is)                    -- in the order: a name -> its address -> its object -> its parts
      (case e2 => PySem.W.k_is)
      ..
    obtain ⟨t, T⟩ := T
    have e0 := hmg.symm.trans (PySem.W.mg_of KX G T.law)
    cases e0                                       -- fa is the law's own address
    exact ⟨_, fun s u => .of_eq rfl, fun base kb nb => My.law_fn T kb nb⟩     -- if «.of_eq rfl» comes too early: refine' ⟨_, ?b, fun base kb nb => My.law_fn T kb nb⟩; exact fun s u => .of_eq rfl
  case S => exact fun w H a ns hl hO hS => ..
  case C => exact ..
(the tactic k_is has no namespace: write k_is) -/

/-! SHORT WORDS over the layer: a def of the text, its body, what a loop and a test want. -/
namespace L2
open PySem PySem.Spec PyProof.Rows

/-! ### the text by places -/
def defArgs (s : Stmt) : Arguments := match s with
  | .FunctionDef _ a _ _ _ _ _ _ _ _ => a
  | _ => { posonlyargs := [], args := [], vararg := none, kwonlyargs := [], kw_defaults := [], kwarg := none, defaults := [] }
def defBody (s : Stmt) : List Stmt := match s with
  | .FunctionDef _ _ b _ _ _ _ _ _ _ => b
  | _ => []
def defScope (s : Stmt) : Scope := match s with
  | .FunctionDef _ _ _ _ _ _ sc _ _ _ => sc
  | _ => { kind := .function, names := [], isGenerator := false, isCoroutine := false }

/-! ### no exception leaves a def -/
abbrev CX0 : CXT := fun _ _ _ _ _ _ => False
abbrev E0 : XK := fun _ _ _ => False
theorem pass0 {X : Cx} : Passes CX0 X E0 := fun _ _ _ _ _ _ _ h => h.elim

/-! ### a def (or method) of the text as it stands behind the top -/
structure Fun (K : PySem.W.Frag) (x qual : Str) (st : Stmt) (f : Addr) (fd : FuncData) : Prop where
  ex : ∃ (oc : Value) (od : Option Addr) (kV doc pm : Value) (an : Option Addr) (cdv ct : Value) (osl : Array (Option Value)),
    fd = PySem.W.fnOf x qual (defArgs st) (defBody st) (defScope st) .none kV doc pm an cdv ct ∧ K.lookup f = some ⟨oc, od, .func fd, osl⟩ ∧ PySem.W.codeIn K cdv qual = true
  kp : PySem.W.keepIn K (.ref f) = true
section
variable {P : Program} {w : World} {K : PySem.W.Frag} {mg : Str → Option Value} {base : Heap}
/-- THE RULE for a def: its body as a term of rules, and the reading of that term -/
theorem Fun.ok {x qual : Str} {st : Stmt} {f : Addr} {fd : FuncData} {N ps : List Str} {k : Nat} {sp : Sp} (F : Fun K x qual st f fd) (S : FnScope N ps (defScope st)) (len : ∀ vs H Q E, sp vs H Q E → vs.length = ps.length)
    (hbody : ∀ (cdv : Value) (A : Around) (outer : List Env) (s : Shared) (H : Hp) (vs : List V) (Q : VK) (E : XK), Room k (A.deeper (envOfC qual (defScope st) s.heap.objs.size f cdv)) → sp vs H Q E →
      ∃ t, PSs (cxOf CX0 P w K mg base N qual (defScope st) f cdv A outer s H E).nox (defBody st) t ∧ t { nx := fun _ H' => Q .non H', rt := Q } (start N vs) H) : FnOk P w K mg base CX0 (k + 1) f fd ps sp := by
  obtain ⟨oc, od, kV, doc, pm, an, cdv, ct, osl, rfl, lk, hcd⟩ := F.ex
  refine fn_of lk hcd S len fun A outer s H vs Q E hr hsp => ?_
  obtain ⟨t, h, q⟩ := hbody cdv A outer s H vs Q E hr hsp
  exact ⟨t, h.nox, q⟩
/-- how its arguments bind (no defaults): h is «fun _ _ _ _ _ _ us hl => match us, hl with | [_, _], _ => rfl», one _ a parameter -/
theorem Fun.binds {x qual : Str} {st : Stmt} {f : Addr} {fd : FuncData} {ps : List Str} (F : Fun K x qual st f fd)
    (h : ∀ (kV doc pm : Value) (an : Option Addr) (cdv ct : Value) (us : List Value), us.length = ps.length → bindArgs (PySem.W.fnOf x qual (defArgs st) (defBody st) (defScope st) .none kV doc pm an cdv ct) ⟨us, []⟩ = pure (ps.zip us)) : Binds K fd ps [] := by
  obtain ⟨oc, od, kV, doc, pm, an, cdv, ct, osl, rfl, lk, hcd⟩ := F.ex
  exact .all (h kV doc pm an cdv ct)
theorem fun_mk {x qual : Str} {st : Stmt} {f : Addr} {oc : Value} {od an : Option Addr} {osl : Array (Option Value)} {kV doc pm cdv ct : Value} (l : K.lookup f = some ⟨oc, od, .func (PySem.W.fnOf x qual (defArgs st) (defBody st) (defScope st) .none kV doc pm an cdv ct), osl⟩)
    (c : PySem.W.codeIn K cdv qual = true) (k : PySem.W.keepIn K (.ref f) = true) : Fun K x qual st f (PySem.W.fnOf x qual (defArgs st) (defBody st) (defScope st) .none kV doc pm an cdv ct) := ⟨⟨oc, od, kV, doc, pm, an, cdv, ct, osl, rfl, l, c⟩, k⟩
end

/-! ### expressions in short: the name that stands in the i-th slot -/
section
variable {X : Cx}
theorem pv (i : Nat) {x : Str} {pos : Pos} (hN : X.N[i]? = some x := by rfl) (hv : Vis X.env.scope x := by first | exact Or.inl rfl | exact Or.inr (Or.inl rfl) | exact Or.inr (Or.inr rfl)) (hd : (x == ("__debug__" : Str)) = false := by decide)
    (hcd : (x == ("__classdict__" : Str)) = false := by decide) : PE X (.Name x pos) (tVar i) := pe_var hN hv hd hcd
end

/-! ### tests -/
theorem iteF {A B : Prop} (h : B) : if false = true then A else B := by
  rw [if_neg Bool.false_ne_true]
  exact h
theorem iteT {A B : Prop} (h : A) : if true = true then A else B := by
  rw [if_pos rfl]
  exact h
theorem ite2 {c A B : Prop} [Decidable c] (h1 : c → A) (h2 : ¬ c → B) : if c then A else B := by
  by_cases h : c
  · rw [if_pos h]
    exact h1 h
  · rw [if_neg h]
    exact h2 h

/-! ### heaps -/
/-- all that was tracked is as it was -/
def Same (H H' : Hp) : Prop := ∀ b o, H b = some o → H' b = some o
theorem Same.refl (H : Hp) : Same H H := fun _ _ h => h
theorem Same.trans {H H1 H2 : Hp} (a : Same H H1) (b : Same H1 H2) : Same H H2 := fun c o h => b c o (a c o h)
theorem Same.free {H H' : Hp} (e : Same H H') {l : Addr} (h : H' l = Option.none) : H l = Option.none := by
  cases q : H l with
  | none => rfl
  | some o =>
    rw [e l o q] at h
    cases h
theorem Same.seq {K : PySem.W.Frag} {H H' : Hp} {a : Addr} {xs : List V} (e : Same H H') (h : SqL K H a xs) : SqL K H' a xs := by
  rcases h with (h | ⟨o, h⟩) | h
  · exact .inl (.inl (e _ _ h))
  · exact .inl (.inr ⟨o, e _ _ h⟩)
  · exact .inr h

/-! ### a dict's pairs: keys that differ -/
section
variable {κ : Type} [DecidableEq κ]
end
end L2

set_option Elab.async false
set_option linter.all false
set_option maxRecDepth 100000
set_option maxHeartbeats 4000000
namespace L2
open PySem PySem.Spec PyProof.Rows

/-! ### comprehensions: the cells that a block takes from its def -/
theorem clos_aux {env : Env} : ∀ (names : List (Str × NameKind)) (cs : List (Str × Addr)), (∀ x ∈ names, x.2 = .free → ∃ c, env.cells.lookup x.1 = some c) → (∀ x c, cs.lookup x = some c → env.cells.lookup x = some c) →
    ∃ cl : List (Str × Addr), (forIn names cs fun x r => if (x.snd == NameKind.free) = true then (do let a ← cellOf env x.fst; pure (ForInStep.yield ((x.fst, a) :: r)) : Sem (ForInStep (List (Str × Addr)))) else pure (ForInStep.yield r)) = pure cl ∧
      (∀ x c, cl.lookup x = some c → env.cells.lookup x = some c) ∧ ∀ x, ((x, NameKind.free) ∈ names ∨ ∃ c, cs.lookup x = some c) → ∃ c, cl.lookup x = some c
  | [], cs, _, h2 => ⟨cs, rfl, h2, fun x hx => hx.elim (fun z => nomatch z) id⟩
  | (n, k) :: r, cs, h1, h2 => by
    rw [List.forIn_cons]
    by_cases hk : k = .free
    · subst hk
      obtain ⟨c, hc⟩ := h1 (n, .free) List.mem_cons_self rfl
      obtain ⟨cl, e, q1, q2⟩ := clos_aux r ((n, c) :: cs) (fun x hx => h1 x (List.mem_cons_of_mem _ hx)) (fun x d hd => by
        rw [List.lookup_cons] at hd
        split at hd
        · rename_i hx
          cases hd
          have : x = n := by simpa using hx
          subst this; exact hc
        · exact h2 x d hd)
      refine ⟨cl, ?_, q1, fun x hx => q2 x ?_⟩
      · simp only [beq_self_eq_true, if_true]
        rw [show cellOf env n = pure c by unfold cellOf; rw [hc]]
        simp only [pure_bind]
        exact e
      · rcases hx with hx | ⟨d, hd⟩
        · rcases List.mem_cons.mp hx with z | z
          · cases z
            exact .inr ⟨c, by rw [List.lookup_cons]; simp⟩
          · exact .inl z
        · refine .inr ?_
          rw [List.lookup_cons]
          split
          · exact ⟨_, rfl⟩
          · exact ⟨d, hd⟩
    · obtain ⟨cl, e, q1, q2⟩ := clos_aux r cs (fun x hx => h1 x (List.mem_cons_of_mem _ hx)) h2
      have hb : (k == NameKind.free) = false := by simpa using hk
      refine ⟨cl, ?_, q1, fun x hx => q2 x ?_⟩
      · simp only [hb, Bool.false_eq_true, if_false, pure_bind]
        exact e
      · rcases hx with hx | hx
        · rcases List.mem_cons.mp hx with z | z
          · cases z; exact absurd rfl hk
          · exact .inl z
        · exact .inr hx
theorem clos_of {env : Env} {scope : Scope} (h : ∀ x ∈ scope.names, x.2 = .free → ∃ c, env.cells.lookup x.1 = some c) :
    ∃ cl : List (Str × Addr), closureFor scope env = pure cl ∧ (∀ x c, cl.lookup x = some c → env.cells.lookup x = some c) ∧ ∀ x, (x, NameKind.free) ∈ scope.names → ∃ c, cl.lookup x = some c := by
  obtain ⟨cl, e, q1, q2⟩ := clos_aux scope.names [] h (fun x c z => by simp at z)
  refine ⟨cl, ?_, q1, fun x hx => q2 x (.inl hx)⟩
  simp only [closureFor]
  rw [e]
  rfl

/-- the turn of a list comprehension's loop, any target -/
theorem comp_loop {prog : Program} {w : World} {A : Around} {R : Result → Shared → Prop} {s : Shared} {elt target iter : Expr} {ifs : List Expr} {scope : Scope} {pos : Pos} {it acc : Value} {env : Env} (I : Nat → Shared → Prop)
    (turn : ∀ n s, I n s → wpAny (model prog w) A (pyNext it) (fun r s₁ => match r with
      | none => R (.ok .next) s₁
      | some v => wpAny (model prog w) A (letOwnedTupleGo target it v) (fun _ s₁' => wpAny (model prog w) A (assign target env v) (fun _ s₂ =>
          wpAny (model prog w) A (forIn ifs true fun c r => if r = true then do let ok ← isTrue c env (eval c env); pure (ForInStep.yield ok) else pure (ForInStep.yield r)) (fun ok s₃ =>
            if ok = true then wpAny (model prog w) A (eval elt env) (fun x s₄ =>
              wpAny (model prog w) A (call (.builtin "list.append") [acc, x]) (fun _ s₅ => ∃ m, m < n ∧ I m s₅) (fun _ _ => False) s₄) (fun _ _ => False) s₃
            else ∃ m, m < n ∧ I m s₃) (fun _ _ => False) s₂) (fun _ _ => False) s₁') (fun _ _ => False) s₁) (fun _ _ => False) s)
    (n : Nat) (h : I n s) :
    codeAny (model prog w) A (.compLoop (.ListComp elt [⟨target, iter, ifs, 0⟩] scope pos) 0 it acc env) R s := by
  refine codeAny_loop rfl I (fun n s hI => ?_) n h
  show wpAny _ A ((compTurn (.ListComp elt [⟨target, iter, ifs, 0⟩] scope pos) 0 it acc env).onRaise (fun x => do noteFrame x env; theTreesLotGoes x)) _ _ s
  refine wpAny_noted ?_
  rw [compTurn_list]
  refine wpAny_bind (wpAny_standAt (wpAny_bind (wpAny_mono (turn n s hI) (fun r s₁ h₁ => ?_) fun _ _ h' => h'.elim)))
  cases r with
  | none => exact wpAny_pure h₁
  | some v =>
    refine wpAny_bind (wpAny_mono h₁ (fun _ s₁' h₁' => ?_) fun _ _ h' => h'.elim)
    refine wpAny_bind (wpAny_mono h₁' (fun _ s₂ h₂ => wpAny_bind (wpAny_mono h₂ (fun ok s₃ h₃ => ?_) fun _ _ h' => h'.elim)) fun _ _ h' => h'.elim)
    cases ok with
    | false => exact wpAny_pure ⟨rfl, h₃⟩
    | true =>
      exact wpAny_bind (wpAny_bind (wpAny_mono h₃ (fun x s₄ h₄ => wpAny_bind (wpAny_mono h₄ (fun _ s₅ h₅ => wpAny_pure (wpAny_pure ⟨rfl, h₅⟩)) fun _ _ h' => h'.elim)) fun _ _ h' => h'.elim))

end L2

set_option maxRecDepth 100000
namespace L2
open PySem PySem.Spec PyProof.Rows
/-- the context of a comprehension's block -/
abbrev compCx (X : Cx) (scope : Scope) (N : List Str) (cl : List (Str × Addr)) (C : Addr) (s : Shared) (H : Hp) (ex : List Addr) (pn : List (Addr × Obj)) : Cx where
  prog := X.prog
  w := X.w
  K := X.K
  mg := X.mg
  base := X.base
  A := X.A
  N := N
  s₀ := s
  H₀ := H
  env := compEnvC scope cl C X.env
  outer := X.stack
  stack := X.stack
  ex := ex
  calm := X.calm
  fn := fun _ => false
  pn := pn
  xe := fun _ _ => False

/-- a condition's list (none or one) -/
def PTs (X : Cx) (ifs : List Expr) (t : TT) : Prop :=
  ∀ (pins : List (Addr × Obj)) (s : Shared) (σ : St) (H : Hp) (Q : Bool → Hp → Prop), Inv X pins σ H s → t σ H Q →
    wpAny (model X.prog X.w) X.A (forIn ifs true fun c r => if r = true then do let ok ← isTrue c X.env (eval c X.env); pure (ForInStep.yield ok) else pure (ForInStep.yield r)) (TP X pins σ Q) X.xe s
def tYes : TT := fun _ H Q => Q true H
theorem pts_nil {X : Cx} : PTs X [] tYes := fun _ _ _ H _ I h => wpAny_tests_nil ⟨H, I, h⟩
theorem pts_one {X : Cx} {c : Expr} {t : TT} (h : PT X c t) : PTs X [c] t := fun pins s σ H Q I hq => wpAny_tests_one (h pins s σ H Q I hq)

/-- the target's values, from the item -/
abbrev TTg := V → Hp → (List V → Prop) → Prop
def PTg (X : Cx) (k : Nat) (tg : Expr) (tt : TTg) : Prop :=
  ∀ (pins : List (Addr × Obj)) (s : Shared) (σ : St) (H : Hp) (v : V) (u : Value) (Q : List V → Prop), Inv X pins σ H s → k ≤ σ.length → RelV v u → tt v H Q →
    wpAny (model X.prog X.w) X.A (assign tg X.env u) (fun _ s' => ∃ ws, ws.length = k ∧ Q ws ∧ Inv X pins (ws.map some ++ σ.drop k) H s') X.xe s
def ttName : TTg := fun v _ Q => Q [v]
theorem ptg_name {X : Cx} {x : Str} {pos : Pos} (hN : X.N.Nodup) (hi : X.N[0]? = some x) (hx : X.env.scope.names.lookup x = some .local) : PTg X 1 (.Name x pos) ttName := by
  intro pins s σ H v u Q I hl r h
  refine wpAny_assign_Name (store_ok I hN hi (.inl hx) r (fun s' I' => ⟨[v], rfl, h, ?_⟩) (.inr hx))
  cases σ with
  | nil => simp at hl
  | cons a t => exact I'
end L2

set_option maxRecDepth 100000
set_option maxHeartbeats 400000
namespace L2
open PySem PySem.Spec PyProof.Rows
def ttTup (K : PySem.W.Frag) (n : Nat) : TTg := fun v H Q => ∃ a xs, v = .ref a ∧ SqT K H a xs ∧ xs.length = n ∧ Q xs
theorem set_two {α : Type} (a b : α) : ∀ (σ : List α), 2 ≤ σ.length → (σ.set 0 a).set 1 b = [a, b] ++ σ.drop 2
  | _ :: _ :: _, _ => rfl
theorem len_two {α : Type} : ∀ (xs : List α), xs.length = 2 → ∃ a b, xs = [a, b]
  | [a, b], _ => ⟨a, b, rfl⟩
theorem ptg_tup2 {X : Cx} {x y : Str} {p1 p2 pos : Pos} {k : Nat} (hc : X.calm = true) (hN : X.N.Nodup) (h0 : X.N[0]? = some x) (h1 : X.N[1]? = some y) (hx : X.env.scope.names.lookup x = some .local) (hy : X.env.scope.names.lookup y = some .local) :
    PTg X 2 (.Tuple [.Name x p1, .Name y p2] k pos) (ttTup X.K 2) := by
  have g : PG X (.Tuple [.Name x p1, .Name y p2] k pos) (gTup X.K 2 (gCons (gName 0) (gCons (gName 1) gNil))) := by
    have a1 : PG X (.Name x p1) (gName 0) := pg_name hN h0 (.inl hx) (.inr hx)
    have a2 : PG X (.Name y p2) (gName 1) := pg_name hN h1 (.inl hy) (.inr hy)
    have a3 : PGs X [.Name x p1, .Name y p2] (gCons (gName 0) (gCons (gName 1) gNil)) := pgs_cons a1 (pgs_cons a2 pgs_nil)
    exact pg_tup hc a3
  intro pins s σ H v u Q I hl r h
  obtain ⟨a, xs, rfl, hq, hlen, q⟩ := h
  obtain ⟨x0, x1, e⟩ := len_two xs hlen
  subst e
  have w : gTup X.K 2 (gCons (gName 0) (gCons (gName 1) gNil)) (.ref a) σ H (fun σ' H' => σ' = (σ.set 0 (some x0)).set 1 (some x1) ∧ H' = H) := ⟨a, [x0, x1], rfl, hq, rfl, x0, [x1], rfl, x1, [], rfl, rfl, rfl, rfl⟩
  refine thn (g pins s σ H _ _ _ I r w) ?_
  intro _ s' z
  obtain ⟨σ', H', I', e1, e2⟩ := z
  subst e2
  rw [set_two _ _ _ hl] at e1
  subst e1
  exact ⟨[x0, x1], rfl, q, I'⟩
end L2

set_option Elab.async false
set_option linter.all false
set_option maxRecDepth 100000
set_option maxHeartbeats 1000000
namespace L2
open PySem PySem.Spec PyProof.Rows

/-- an object that stands in the heap is tracked from now on -/
theorem HOk.adopt {P : Program} {w : World} {H : Hp} {h : Heap} {a : Addr} {o : HO} (x : HOk P w H h) (hn : H a = none) (new : ObjOk P w (upd H a o) h a o) : HOk P w (upd H a o) h := fun b u e => by
  by_cases hb : b = a
  · subst hb; rw [upd_same] at e; cases e; exact new
  · rw [upd_ne hb] at e
    exact (x b u e).stay (fun c v _ q => q) (fun c q => by rw [upd_ne (ne_of_none q hn)]; exact q) fun c xs q => by rw [upd_ne (ne_of_none q hn)]; exact q

theorem relabel_free {env : Env} {x : Str} : ∀ {names : List (Str × NameKind)}, names.lookup x = some .free →
    (names.map fun (n, k) => if (k == NameKind.free && env.scope.kind == .function && env.kindOf n == some .cell) then (n, NameKind.cell) else (n, k)).lookup x = some .cell ∨
    (names.map fun (n, k) => if (k == NameKind.free && env.scope.kind == .function && env.kindOf n == some .cell) then (n, NameKind.cell) else (n, k)).lookup x = some .free
  | [], h => by simp at h
  | (n, k) :: r, h => by
    have ih := @relabel_free env x r
    show (List.lookup x ((if (k == NameKind.free && env.scope.kind == .function && env.kindOf n == some .cell) = true then (n, NameKind.cell) else (n, k)) :: _) = _) ∨ (List.lookup x ((if (k == NameKind.free && env.scope.kind == .function && env.kindOf n == some .cell) = true then (n, NameKind.cell) else (n, k)) :: _) = _)
    cases hx : x == n with
    | true =>
      simp only [List.lookup_cons, hx] at h
      cases h
      split
      · left; simp [List.lookup_cons, hx]
      · right; simp [List.lookup_cons, hx]
    | false =>
      simp only [List.lookup_cons, hx] at h
      split
      · simp only [List.lookup_cons, hx]; exact ih h
      · simp only [List.lookup_cons, hx]; exact ih h
theorem relabel_back {env : Env} {x : Str} : ∀ {names : List (Str × NameKind)}, (∀ y ∈ names, y.2 ≠ .cell) →
    ((names.map fun (n, k) => if (k == NameKind.free && env.scope.kind == .function && env.kindOf n == some .cell) then (n, NameKind.cell) else (n, k)).lookup x = some .cell ∨
    (names.map fun (n, k) => if (k == NameKind.free && env.scope.kind == .function && env.kindOf n == some .cell) then (n, NameKind.cell) else (n, k)).lookup x = some .free) → (x, NameKind.free) ∈ names
  | [], _, h => by simp at h
  | (n, k) :: r, hc, h => by
    have ih := @relabel_back env x r (fun y hy => hc y (List.mem_cons_of_mem _ hy))
    have hk : k ≠ .cell := hc (n, k) List.mem_cons_self
    have h' : (List.lookup x ((if (k == NameKind.free && env.scope.kind == .function && env.kindOf n == some .cell) = true then (n, NameKind.cell) else (n, k)) :: _) = _) ∨ (List.lookup x ((if (k == NameKind.free && env.scope.kind == .function && env.kindOf n == some .cell) = true then (n, NameKind.cell) else (n, k)) :: _) = _) := h
    cases hx : x == n with
    | true =>
      have e : x = n := by simpa using hx
      subst e
      by_cases hc2 : (k == NameKind.free && env.scope.kind == .function && env.kindOf x == some .cell) = true
      · have : k = .free := by
          have := (Bool.and_eq_true_iff.mp (Bool.and_eq_true_iff.mp hc2).1).1
          simpa using this
        subst this; exact List.mem_cons_self
      · rw [if_neg hc2] at h'
        simp only [List.lookup_cons, hx] at h'
        rcases h' with h' | h'
        · exact absurd (Option.some.inj h') hk
        · cases h'; exact List.mem_cons_self
    | false =>
      refine List.mem_cons_of_mem _ (ih ?_)
      split at h' <;> (simp only [List.lookup_cons, hx] at h'; exact h')

/-- what of a comprehension's scope is written in the text -/
structure CompOk (scope psc : Scope) (N PN : List Str) (k : Nat) (cap : List Nat) : Prop where
  kind : scope.kind = .function
  len : N.length = k + cap.length
  cell : ∀ y ∈ scope.names, y.2 ≠ .cell
  loc : ∀ y ∈ scope.names, y.2 = .local → scope.names.lookup y.1 = some .local
  free : ∀ y ∈ scope.names, y.2 = .free → psc.names.lookup y.1 = some .cell ∨ psc.names.lookup y.1 = some .free
  cap : ∀ j ∈ List.range cap.length, ∃ x i, N[k + j]? = some x ∧ cap[j]? = some i ∧ PN[i]? = some x ∧ scope.names.lookup x = some .free
  free2 : ∀ y ∈ scope.names, y.2 = .free → scope.names.lookup y.1 = some .free
def capS (σ : St) (cap : List Nat) : St := cap.map fun j => (σ[j]?).join
def tComp (wi : TI) (tt : TTg) (tc : TT) (te : TE) (cap : List Nat) : TE := fun σ H Q => wi σ H fun J H1 =>
  ∃ W : Nat → Nat → List V → Hp → Prop, (∃ m, W 0 m [] H1) ∧ ∀ i m ys H2, W i m ys H2 →
    (J.stop i H2 ∧ ys.length ≤ sizeLine ∧ ∀ p, H2 p = none → Q (.ref p) (upd H2 p (.lst ys))) ∨
    (J.go i H2 ∧ ∃ N : List V → Hp → Prop, (∀ ys' H', N ys' H' → ys'.length ≤ sizeLine ∧ ∃ m', m' < m ∧ W (i + 1) m' ys' H') ∧
      ∀ x H3, J.yld i H2 x H3 → tt x H3 fun ws => tc (ws.map some ++ capS σ cap) H3 fun b H4 =>
        if b = true then te (ws.map some ++ capS σ cap) H4 fun y H5 => N (ys ++ [y]) H5 else N ys H4)

/-- the block's own dict, as its def sees it -/
structure Blk (X : Cx) (pins : List (Addr × Obj)) (H : Hp) (s : Shared) (C : Addr) : Prop where
  ns : ∃ m, s.heap.Ns C m
  un : H C = none
  ne : C ≠ X.env.locals
  new : X.s₀.heap.objs.size ≤ C
  cells : ∀ x c, X.env.cells.lookup x = some c → c ≠ C
  pins : ∀ p ∈ X.pn ++ pins, p.1 ≠ C
theorem Blk.turn {X : Cx} {pins : List (Addr × Obj)} {H : Hp} {σ : St} {s : Shared} {C : Addr} {h' : Heap} (B : Blk X pins H s C) (I : Inv X pins σ H s) (hs : Heap.SameBut C s.heap h') : Inv X pins σ H { s with heap := h' } :=
  I.turned (t' := s.toks) (fun b o hb e => hs.extBut b o hb e) B.un B.ne (.inr B.new) B.cells B.pins

/-- the block's context at its start -/
theorem comp_start {X : Cx} {pins : List (Addr × Obj)} {σ : St} {H : Hp} {s : Shared} {scope : Scope} {N : List Str} {k : Nat} {cap : List Nat} {cl : List (Str × Addr)} {h₁ : Heap} {fp : List Addr} {tk : Nat} (I : Inv X pins σ H s) (S : CompOk scope X.env.scope N X.N k cap)
    (hcl1 : ∀ x c, cl.lookup x = some c → X.env.cells.lookup x = some c) (hcl2 : ∀ x, (x, NameKind.free) ∈ scope.names → ∃ c, cl.lookup x = some c)
    (hf : ∀ b ∈ fp, FpOk X pins H b) (ho : ∀ b ∈ fp, ∃ o, s.heap.get? b = some o)
    {m : Str → Option Value} (hns : h₁.Ns (s.heap.objs.size + 1) m)
    (hsb : ∀ b o, (s.heap.push { cls := .type "list", data := .seq #[] }).get? b = some o → h₁.get? b = some o) :
    Inv (compCx X scope N cl (s.heap.objs.size + 1) { s with heap := s.heap.push { cls := .type "list", data := .seq #[] } } H (s.heap.objs.size :: fp) (X.pn ++ pins))
      [(s.heap.objs.size, { cls := .type "list", data := .seq #[] })] (List.replicate k none ++ capS σ cap) H { s with heap := h₁, toks := tk } := by
  have Ik : Inv X pins σ H { s with heap := s.heap.push { cls := .type "list", data := .seq #[] } } := I.kept (t' := s.toks) fun b o e => Heap.get?_push_of_some _ e
  have hold : ∀ b o, s.heap.get? b = some o → h₁.get? b = some o := fun b o e => hsb b o (Heap.get?_push_of_some _ e)
  have ltD : ∀ {b o}, s.heap.get? b = some o → b < s.heap.objs.size := fun e => Heap.lt_size e
  have sizeP : (s.heap.push { cls := .type "list", data := .seq #[] }).objs.size = s.heap.objs.size + 1 := Heap.size_push ..
  have nD : H s.heap.objs.size = none := I.fresh
  have nC : H (s.heap.objs.size + 1) = none := I.hok.fresh (Nat.le_succ _)
  have cellLt : ∀ x c, X.env.cells.lookup x = some c → c < s.heap.objs.size := fun x c e => by
    obtain ⟨v, q⟩ := I.cell x c e
    exact q.lt
  have stkNe : ∀ b, b ≠ X.env.locals → b ∉ X.fs → b ∉ frs X.stack := fun b h1 h2 hb => (List.mem_cons.mp (I.stkSub b hb)).elim h1 h2
  have fpLt : ∀ b ∈ fp, b < s.heap.objs.size := fun b hb => by obtain ⟨o, e⟩ := ho b hb; exact Heap.lt_size e
  have hfn : ∀ {x : Str}, scope.names.lookup x = some .free → (x, NameKind.free) ∈ scope.names := fun e => PySem.mem_of_lookup e
  refine ⟨⟨I.ok.mod, S.kind, I.ok.glob, I.ok.blt, ?_, fun x y c h1 h2 => I.ok.inj x y c (hcl1 x c h1) (hcl1 y c h2), fun x hx => hcl2 x (relabel_back S.cell hx), fun x c z => (by cases z), I.ok.hd, I.ok.frames, .inl rfl, ?_, ?_, ?_, ?_, ?_, Ik.stack, I.stkFree⟩,
    rfl, I.bare, Un.kept hsb, ?_, ?_, nC, fun x c e => I.freeC x c (hcl1 x c e), ?_, I.hok.kept hold, ?_⟩
  · exact Nat.le_of_eq sizeP
  · intro b hb
    rcases List.mem_cons.mp hb with rfl | hb
    · exact ⟨Nat.ne_of_lt (Nat.lt_succ_self _), fun x c e => Nat.ne_of_lt (cellLt x c (hcl1 x c e))⟩
    · exact ⟨Nat.ne_of_lt (Nat.lt_succ_of_lt (fpLt b hb)), fun x c e => (hf b hb).2.2.2.2.1 x c (hcl1 x c e)⟩
  · intro b o e
    obtain ⟨e1, e2⟩ := I.bs b o e
    exact ⟨Heap.get?_push_of_some _ e1, e2⟩
  · show X.base.objs.size ≤ (s.heap.push _).objs.size
    rw [sizeP]
    exact Nat.le_succ_of_le (Nat.le_trans I.ok.bsz I.sz)
  · intro b o e hb
    obtain ⟨e1, e2⟩ := I.bs b o e
    rcases List.mem_cons.mp hb with rfl | hb
    · exact absurd (ltD e1) (Nat.lt_irrefl _)
    · rcases (hf b hb).2.2.2.1 with z | z
      · exact I.ok.noex b o e z
      · exact absurd (Nat.lt_of_lt_of_le (Heap.lt_size (I.ok.bs b o e).1) z) (Nat.lt_irrefl _)
  · intro b hb
    rcases List.mem_cons.mp hb with rfl | hb
    · exact stkNe _ (Nat.ne_of_gt I.lt) (I.nofs (Nat.le_refl _))
    · exact stkNe b (hf b hb).2.1 (hf b hb).2.2.1
  · refine ⟨m, hns, fun i x v h1 h2 h3 => ?_⟩
    have hik : k ≤ i := by
      refine Nat.le_of_not_lt fun hlt => ?_
      rw [List.getElem?_append_left (by simpa using hlt), List.getElem?_replicate] at h2
      split at h2 <;> cases h2
    obtain ⟨j, rfl⟩ := Nat.exists_eq_add_of_le hik
    rw [List.getElem?_append_right (by simp), List.length_replicate, Nat.add_sub_cancel_left] at h2
    have hj : j < cap.length := by
      have := (List.getElem?_eq_some_iff.mp h2).1
      simpa [capS] using this
    obtain ⟨x', i, e1, e2, e3, e4⟩ := S.cap j (List.mem_range.mpr hj)
    rw [show N[k + j]? = some x from h1] at e1
    cases e1
    have h2' : σ[i]? = some (some v) := by
      unfold capS at h2
      rw [List.getElem?_map, e2] at h2
      have h2' : (σ[i]?).join = some v := Option.some.inj h2
      cases q : σ[i]? with
      | none => rw [q] at h2'; cases h2'
      | some z => rw [q] at h2'; exact congrArg some h2'
    have hfm := hfn e4
    have pk := S.free _ hfm rfl
    obtain ⟨m0, _, hl⟩ := I.loc
    obtain ⟨u, r, lk⟩ := hl i x v e3 h2' (pk.elim (fun z => .inr (.inl z)) fun z => .inr (.inr z))
    refine ⟨u, r, ?_⟩
    rcases lk with ⟨kl, _⟩ | ⟨_, c, e, ic⟩
    · rcases pk with z | z
      · have : X.env.scope.names.lookup x = some .local := kl
        rw [z] at this; cases this
      · have : X.env.scope.names.lookup x = some .local := kl
        rw [z] at this; cases this
    · obtain ⟨c', ec⟩ := hcl2 x hfm
      have := hcl1 x c' ec
      rw [e] at this; cases this
      refine .inr ⟨?_, c, ec, ?_⟩
      · exact relabel_free e4
      · obtain ⟨ob, h3, h4⟩ := ic
        exact ⟨ob, hold _ _ h3, h4⟩
  · intro x c e
    obtain ⟨v, ob, h3, h4⟩ := I.cell x c (hcl1 x c e)
    exact ⟨v, ob, hold _ _ h3, h4⟩
  · intro p hp
    rcases List.mem_append.mp hp with hp | hp
    · obtain ⟨e, n, ne, nf, d⟩ := I.pin p hp
      exact ⟨hold _ _ e, n, Nat.ne_of_lt (Nat.lt_succ_of_lt (ltD e)), stkNe _ ne nf, d⟩
    · have : p = (s.heap.objs.size, { cls := .type "list", data := .seq #[] }) := by simpa using hp
      subst this
      refine ⟨hsb _ _ (Heap.get?_push_size _ rfl), nD, Nat.ne_of_lt (Nat.lt_succ_self _), stkNe _ (Nat.ne_of_gt I.lt) (I.nofs (Nat.le_refl _)), fun v z => by cases z⟩
  · show _ = N.length
    rw [S.len]
    simp [capS]
end L2

set_option Elab.async false
set_option linter.all false
set_option maxRecDepth 100000
set_option maxHeartbeats 1000000
namespace L2
open PySem PySem.Spec PyProof.Rows

theorem comp_core {X : Cx} {elt tg iter : Expr} {ifs : List Expr} {scope : Scope} {pos : Pos} {N : List Str} {k : Nat} {cap : List Nat} {wi : TI} {tt : TTg} {tc : TT} {te : TE} {cl : List (Str × Addr)}
    (hc : X.calm = true) (hi : PI X tg iter wi) (hg : ∀ cl C s H ex pn, PTg (compCx X scope N cl C s H ex pn) k tg tt) (ht : ∀ cl C s H ex pn, PTs (compCx X scope N cl C s H ex pn) ifs tc)
    (he : ∀ cl C s H ex pn, PE (compCx X scope N cl C s H ex pn) elt te) (S : CompOk scope X.env.scope N X.N k cap)
    (hcl1 : ∀ x c, cl.lookup x = some c → X.env.cells.lookup x = some c) (hcl2 : ∀ x, (x, NameKind.free) ∈ scope.names → ∃ c, cl.lookup x = some c)
    {pins : List (Addr × Obj)} {s : Shared} {σ : St} {H : Hp} {Q : VK} (I : Inv X pins σ H s) (h : tComp wi tt tc te cap σ H Q) {RR : Value → Addr → Result → Shared → Prop}
    (hRR : ∀ D C s1 H', Inv X pins σ H' s1 → Blk X pins H' s1 C → Q (.ref D) H' → RR (.ref D) C (.ok .next) s1) :
    wpAny (model X.prog X.w) X.A (eval iter X.env) (fun x s₁ => wpAny (model X.prog X.w) X.A (pyIter x) (fun it s₂ => wpAny (model X.prog X.w) X.A (newList []) (fun acc s₃ =>
      wpAny (model X.prog X.w) X.A (newFunctionEnv scope X.env.globals cl [] X.env.qual none .none (some X.env)) (fun cenv s₄ =>
        codeAny (model X.prog X.w) X.A (.compStart (.ListComp elt [⟨tg, iter, ifs, 0⟩] scope pos) 0 it acc { cenv with scope := relabel scope X.env }) (RR acc cenv.locals) s₄) X.xe s₃) X.xe s₂) X.xe s₁) X.xe s := by
  refine thn (hi pins s σ H _ I h) fun v s1 h1 => thn h1 fun itv s2 h2 => ?_
  obtain ⟨it, fp, tn, J, H2, e, I2, T, st2, f2, W, ⟨m0, w0⟩, turn⟩ := h2
  subst e
  refine wpAny_newObj_type (wpAny_newFunctionEnv S.cell (by intro y hy; simp at hy) (fun h₁ hns₁ hsb₁ => ?_) S.kind)
  dsimp only at hns₁ hsb₁ ⊢
  have hP : s2.heap.push { cls := .type "list", dict := none, data := .seq ([] : List Value).toArray } = s2.heap.push { cls := .type "list", data := .seq #[] } := rfl
  rw [hP] at hns₁ hsb₁ ⊢
  have hC : (s2.heap.push { cls := .type "list", data := .seq #[] }).objs.size = s2.heap.objs.size + 1 := Heap.size_push ..
  rw [hC] at hns₁ hsb₁ ⊢
  have hsb : ∀ b o, (s2.heap.push { cls := .type "list", data := .seq #[] }).get? b = some o → h₁.get? b = some o := fun b o e =>
    hsb₁.extBut b o (by have := Heap.lt_size e; rw [hC] at this; exact Nat.ne_of_lt this) (Heap.get?_push_of_some _ e)
  have hob : ∀ b ∈ fp, ∃ o, s2.heap.get? b = some o := fun b hb => by obtain ⟨o, e, _⟩ := T.obj _ _ st2 b hb; exact ⟨o, e⟩
  have IY := comp_start (N := N) (k := k) (cap := cap) (tk := s2.toks + ([] : List (Str × Value)).length) I2 S hcl1 hcl2 f2 hob hns₁ hsb
  -- the block's context
  generalize hY : compCx X scope N cl (s2.heap.objs.size + 1) { s2 with heap := s2.heap.push { cls := .type "list", data := .seq #[] } } H2 (s2.heap.objs.size :: fp) (X.pn ++ pins) = Y at IY
  have yp : Y.prog = X.prog := by rw [← hY]
  have yw : Y.w = X.w := by rw [← hY]
  have yK : Y.K = X.K := by rw [← hY]
  have yA : Y.A = X.A := by rw [← hY]
  have yc : Y.calm = true := by rw [← hY]; exact hc
  have yl : Y.env.locals = s2.heap.objs.size + 1 := by rw [← hY]; rfl
  have yenv : Y.env = compEnvC scope cl (s2.heap.objs.size + 1) X.env := by rw [← hY]
  have yex : Y.ex = s2.heap.objs.size :: fp := by rw [← hY]
  have yfs : Y.fs = frs X.stack := by rw [← hY]
  have ypn : Y.pn = X.pn ++ pins := by rw [← hY]
  have ycl : Y.env.cells = cl := by rw [← hY]; rfl
  have yxe : Y.xe = fun _ _ => False := by rw [← hY]
  have gT : PTg Y k tg tt := by rw [← hY]; exact hg _ _ _ _ _ _
  have gC : PTs Y ifs tc := by rw [← hY]; exact ht _ _ _ _ _ _
  have gE : PE Y elt te := by rw [← hY]; exact he _ _ _ _ _ _
  have yH : Y.H₀ = H2 := by rw [← hY]
  have ys0 : Y.s₀ = { s2 with heap := s2.heap.push { cls := .type "list", data := .seq #[] } } := by rw [← hY]
  have fpLt : ∀ b ∈ fp, b < s2.heap.objs.size := fun b hb => by obtain ⟨o, e⟩ := hob b hb; exact Heap.lt_size e
  have pinLt : ∀ p ∈ X.pn ++ pins, p.1 < s2.heap.objs.size := fun p hp => Heap.lt_size (I2.pin p hp).1
  have cellLt : ∀ x c, X.env.cells.lookup x = some c → c < s2.heap.objs.size := fun x c e => by
    obtain ⟨v, q⟩ := I2.cell x c e
    exact q.lt
  have stkNe : ∀ b, b ≠ X.env.locals → b ∉ X.fs → b ∉ frs X.stack := fun b h1 h2 hb => (List.mem_cons.mp (I2.stkSub b hb)).elim h1 h2
  -- the iterator's records in the block
  have fpY : ∀ {H' : Hp} {pl : List (Addr × Obj)}, (∀ b ∈ fp, H' b = none) → (∀ p ∈ pl, p.1 = s2.heap.objs.size) → ∀ b ∈ fp, FpOk Y pl H' b := fun {H' pl} hn hpl b hb => by
    refine ⟨hn b hb, ?_, ?_, .inl ?_, fun x c e => ?_, fun p hp => ?_⟩
    · rw [yl]; exact Nat.ne_of_lt (Nat.lt_succ_of_lt (fpLt b hb))
    · rw [yfs]; exact stkNe b (f2 b hb).2.1 (f2 b hb).2.2.1
    · rw [yex]; exact List.mem_cons_of_mem _ hb
    · rw [ycl] at e; exact (f2 b hb).2.2.2.2.1 x c (hcl1 x c e)
    · rcases List.mem_append.mp hp with hp | hp
      · rw [ypn] at hp; exact (f2 b hb).2.2.2.2.2 p hp
      · rw [hpl p hp]; exact Nat.ne_of_gt (fpLt b hb)
  have loop : ∀ s₃ : Shared, s₃ = { s2 with heap := h₁, toks := s2.toks + ([] : List (Str × Value)).length } →
      codeAny (model X.prog X.w) X.A (.compLoop (.ListComp elt [⟨tg, iter, ifs, 0⟩] scope pos) 0 (.ref it) (.ref s2.heap.objs.size) (compEnvC scope cl (s2.heap.objs.size + 1) X.env)) (RR (.ref s2.heap.objs.size) (s2.heap.objs.size + 1)) s₃ := by
    rintro s₃ rfl
    refine comp_loop (fun n s' => ∃ i ys its H' c, Inv Y [(s2.heap.objs.size, { cls := .type "list", data := .seq (List.toArray its) c })] (List.replicate k none ++ capS σ cap) H' s' ∧ tn i s'.heap ∧ (∀ b ∈ fp, H' b = none) ∧ Vals ys its ∧ W i n ys H') ?_ m0
      ⟨0, [], [], H2, _, IY, T.keep _ _ _ st2 fun b hb o e => hsb b o (Heap.get?_push_of_some _ e), fun b hb => (f2 b hb).1, .nil, w0⟩
    rintro n s3 ⟨i, ys, its, H3, c3, I3, st3, fr3, rv3, w3⟩
    have onlyD : ∀ p ∈ [(s2.heap.objs.size, ({ cls := .type "list", data := .seq its.toArray c3 } : Obj))], p.1 = s2.heap.objs.size := fun p hp => by
      have : p = (s2.heap.objs.size, { cls := .type "list", data := .seq its.toArray c3 }) := by simpa using hp
      rw [this]
    have pinD : ∀ {pl : List (Addr × Obj)} {σ' : St} {H' : Hp} {s' : Shared}, Inv Y ([(s2.heap.objs.size, ({ cls := .type "list", data := .seq its.toArray c3 } : Obj))] ++ pl) σ' H' s' → s'.heap.get? s2.heap.objs.size = some { cls := .type "list", data := .seq its.toArray c3 } ∧ H' s2.heap.objs.size = none := fun I' => by
      obtain ⟨e, n, _⟩ := I'.pin (s2.heap.objs.size, { cls := .type "list", data := .seq its.toArray c3 }) (List.mem_append_right _ (List.mem_append_left _ (by simp)))
      exact ⟨e, n⟩
    rcases turn i n ys H3 w3 with ⟨stop, hz, qn⟩ | ⟨go, Nx, hNx, step⟩
    · have hd := T.done Y yp yw yK yc i _ s3 _ H3 (fun _ _ => False) I3 (fpY fr3 onlyD) st3 stop
      rw [yA] at hd
      refine thn hd fun r s4 ⟨hr, I4⟩ => ?_
      subst hr
      obtain ⟨eD, nD⟩ := pinD (pl := []) (by simpa using I4)
      have nC : H3 (s2.heap.objs.size + 1) = none := by have := I4.free; rw [yl] at this; exact this
      obtain ⟨mC, nsC, _⟩ := I4.loc
      rw [yl] at nsC
      have U := I4.base
      rw [yfs, yex, yH, ys0] at U
      have old : ∀ {b o}, s2.heap.get? b = some o → b < s2.heap.objs.size := fun e => Heap.lt_size e
      have Un2 : Un (frs X.stack) (s2.heap.objs.size :: fp) H2 (upd H3 s2.heap.objs.size (.lst ys)) s2.heap s4.heap :=
        ⟨fun b o e n hb hx => U.keep b o (Heap.get?_push_of_some _ e) n hb hx, fun b o e n hb hx => U.slot b o (Heap.get?_push_of_some _ e) n hb hx,
          fun b o e n hx => by rw [upd_ne (Nat.ne_of_lt (old e))]; exact U.free b o (Heap.get?_push_of_some _ e) n hx, fun b o e hx => U.there b o (Heap.get?_push_of_some _ e) hx,
          fun b xs e => by have q := U.tups b xs e; rw [upd_ne (ne_of_none q nD)]; exact q, fun b o u e => by have q := U.frzs b o u e; rw [upd_ne (ne_of_none q nD)]; exact q,
          fun b ps e => by obtain ⟨mo, q⟩ := U.tbls b ps e; exact ⟨mo, by rw [upd_ne (ne_of_none q nD)]; exact q⟩⟩
      have hok4 := I4.hok
      rw [yp, yw] at hok4
      have IX : Inv X pins σ (upd H3 s2.heap.objs.size (.lst ys)) s4 := by
        refine I2.call' (ch := s2.heap.objs.size :: fp) ?_ Un2 (hok4.adopt nD ⟨hz, its, c3, rv3, eD⟩) I4.bare fun b hb => ?_
        · have := I4.os; rw [ys0] at this; exact this
        · rcases List.mem_cons.mp hb with rfl | hb
          · exact ⟨.inr I2.sz, Nat.ne_of_gt I2.lt, fun x c e => Nat.ne_of_lt (cellLt x c e), fun p hp => Nat.ne_of_lt (pinLt p hp)⟩
          · exact ⟨(f2 b hb).2.2.2.1, (f2 b hb).2.1, (f2 b hb).2.2.2.2.1, (f2 b hb).2.2.2.2.2⟩
      refine hRR _ _ s4 _ IX ⟨⟨mC, nsC⟩, ?_, ?_, Nat.le_succ_of_le I2.sz, fun x c e => Nat.ne_of_lt (Nat.lt_succ_of_lt (cellLt x c e)), fun p hp => Nat.ne_of_lt (Nat.lt_succ_of_lt (pinLt p hp))⟩ (qn _ nD)
      · rw [upd_ne (Nat.succ_ne_self _)]; exact nC
      · exact Nat.ne_of_gt (Nat.lt_succ_of_lt I2.lt)
    · have hd := T.item Y yp yw yK yc i _ s3 _ H3 (fun _ _ => False) I3 (fpY fr3 onlyD) st3 go
      rw [yA] at hd
      refine thn hd fun r s4 ⟨u, hr, h4⟩ => ?_
      subst hr
      refine thn h4 fun _ s5 ⟨x, H5, I5, r5, y5, st5, fr5⟩ => ?_
      have I5' := I5.pinned (fpY fr5 onlyD) (T.obj _ _ st5)
      have a5 := gT _ s5 _ H5 x u _ I5' (by simp) r5 (step x H5 y5)
      rw [yp, yw, yA, yxe, yenv] at a5
      refine thn a5 fun _ s6 ⟨ws, hlw, q6, I6⟩ => ?_
      have dr : (List.replicate k (none : Option V) ++ capS σ cap).drop k = capS σ cap := by
        rw [List.drop_append_of_le_length (by simp)]; simp
      rw [dr] at I6
      have a6 := gC _ s6 _ H5 _ I6 q6
      rw [yp, yw, yA, yxe, yenv] at a6
      refine thn a6 fun ok s7 ⟨H7, I7, q7⟩ => ?_
      have wk : ∀ (j : Nat) v, (List.replicate k (none : Option V) ++ capS σ cap)[j]? = some (some v) → (ws.map some ++ capS σ cap)[j]? = some (some v) := fun j v e => by
        have hik : k ≤ j := by
          refine Nat.le_of_not_lt fun hlt => ?_
          rw [List.getElem?_append_left (by simpa using hlt), List.getElem?_replicate] at e
          split at e <;> cases e
        rw [List.getElem?_append_right (by simpa using hik), List.length_replicate] at e
        rw [List.getElem?_append_right (by simpa [hlw] using hik), List.length_map, hlw]
        exact e
      have wl : (List.replicate k (none : Option V) ++ capS σ cap).length = (ws.map some ++ capS σ cap).length := by simp [hlw]
      -- what stands behind the element
      have stn : ∀ {H' : Hp} {s' : Shared}, Inv Y ([(s2.heap.objs.size, ({ cls := .type "list", data := .seq its.toArray c3 } : Obj))] ++ pinsAt fp s5.heap) (ws.map some ++ capS σ cap) H' s' → tn (i + 1) s'.heap ∧ ∀ b ∈ fp, H' b = none := fun {H' s'} I' => by
        refine ⟨T.keep _ _ _ st5 fun b hb o e => (I'.pin (b, o) (List.mem_append_right _ (List.mem_append_right _ (mem_pinsAt hb e)))).1, fun b hb => ?_⟩
        obtain ⟨o, e, d⟩ := T.obj _ _ st5 b hb
        exact (I'.pin (b, o) (List.mem_append_right _ (List.mem_append_right _ (mem_pinsAt hb e)))).2.1
      cases ok with
      | false =>
        obtain ⟨_, m', hm, w'⟩ := hNx _ _ q7
        obtain ⟨t7, f7⟩ := stn I7
        exact ⟨m', hm, i + 1, ys, its, H7, c3, (I7.weak wl wk).unpinned, t7, f7, rv3, w'⟩
      | true =>
        have a7 := gE _ s7 _ H7 _ I7 q7
        rw [yp, yw, yA, yxe, yenv] at a7
        rw [if_pos rfl]
        refine thn a7 fun yv s8 ⟨y, H8, I8, r8, q8⟩ => ?_
        obtain ⟨hz8, m', hm, w'⟩ := hNx _ _ q8
        rw [List.length_append, List.length_singleton] at hz8
        obtain ⟨eD, nD⟩ := pinD I8
        obtain ⟨t8, f8⟩ := stn I8
        refine wpAny_list_append_plain (hsz := by rw [List.size_toArray, ← rv3.length]; omega) ⟨c3, eD⟩ fun h9 pl9 sb9 => ?_
        obtain ⟨c9, e9⟩ := pl9
        have I8' : Inv Y [] (List.replicate k none ++ capS σ cap) H8 s8 := (I8.weak wl wk).pins_of fun p hp => by cases hp
        have I9 : Inv Y [] (List.replicate k none ++ capS σ cap) H8 { s8 with heap := h9 } :=
          I8'.turned (t' := s8.toks) (it := s2.heap.objs.size) (fun b o hb e => sb9.extBut b o hb e) nD (by rw [yl]; exact Nat.ne_of_lt (Nat.lt_succ_self _)) (.inl (by rw [yex]; exact List.mem_cons_self)) (fun x c e => by rw [ycl] at e; exact Nat.ne_of_lt (cellLt x c (hcl1 x c e)))
            fun p hp => by
              rw [List.append_nil, ypn] at hp
              exact Nat.ne_of_lt (pinLt p hp)
        have e9' : h9.get? s2.heap.objs.size = some { cls := .type "list", data := .seq (its ++ [yv]).toArray c9 } := by rw [e9]; simp
        refine ⟨m', hm, i + 1, ys ++ [y], its ++ [yv], H8, c9, I9.pins_of fun p hp => ?_, T.keep _ _ _ t8 fun b hb o e => sb9.extBut b o (Nat.ne_of_lt (fpLt b hb)) e, f8, rv3.append (.cons r8 .nil), w'⟩
        have : p = (s2.heap.objs.size, { cls := .type "list", data := .seq (its ++ [yv]).toArray c9 }) := by simpa using hp
        subst this
        refine ⟨e9', nD, ?_, ?_, fun v z => by cases z⟩
        · rw [yl]; exact Nat.ne_of_lt (Nat.lt_succ_self _)
        · rw [yfs]; exact stkNe _ (Nat.ne_of_gt I2.lt) (I2.nofs (Nat.le_refl _))
  exact codeAny_compStart_list (loop _ rfl) (T.self _ 0 _ _ _ (T.keep _ _ _ st2 fun b hb o e => hsb b o (Heap.get?_push_of_some _ e)) (loop _ rfl))

section
variable {X : Cx} {elt tg iter : Expr} {ifs : List Expr} {scope : Scope} {pos : Pos} {N : List Str} {k : Nat} {cap : List Nat} {wi : TI} {tt : TTg} {tc : TT} {te : TE}
theorem pe_comp (hc : X.calm = true) (S : CompOk scope X.env.scope N X.N k cap) (hi : PI X tg iter wi) (hg : ∀ cl C s H ex pn, PTg (compCx X scope N cl C s H ex pn) k tg tt) (ht : ∀ cl C s H ex pn, PTs (compCx X scope N cl C s H ex pn) ifs tc)
    (he : ∀ cl C s H ex pn, PE (compCx X scope N cl C s H ex pn) elt te) (hs : ∀ x, foldedSetIterable iter X.env x = pure x := by intro _; rfl) :
    PE X (.ListComp elt [⟨tg, iter, ifs, 0⟩] scope pos) (tComp wi tt tc te cap) := by
  intro pins s σ H Q I h
  obtain ⟨cl, hclos, hcl1, hcl2⟩ := clos_of (scope := scope) (env := X.env) fun y hy hf => I.ok.has y.1 (S.free y hy hf)
  rw [eval_ListComp]
  refine wpAny_comprehension_free (use := none) rfl hs hclos S.kind S.loc ?_
  refine comp_core hc hi hg ht he S hcl1 hcl2 I h fun D C s1 H' I1 B q => ?_
  obtain ⟨m, hm⟩ := B.ns
  exact ⟨m, hm, fun h' sb => ⟨.ref D, H', B.turn I1 sb, rfl, q⟩⟩
/-- y = [..]: the name is stored ahead of the block's own names being let go -/
theorem ps_setC {i : Nat} {y : Str} {py spos : Pos} (hc : X.calm = true) (S : CompOk scope X.env.scope N X.N k cap) (hN : X.N.Nodup) (hiy : X.N[i]? = some y) (hy : X.env.scope.names.lookup y = some .local) (hi : PI X tg iter wi)
    (hg : ∀ cl C s H ex pn, PTg (compCx X scope N cl C s H ex pn) k tg tt) (ht : ∀ cl C s H ex pn, PTs (compCx X scope N cl C s H ex pn) ifs tc)
    (he : ∀ cl C s H ex pn, PE (compCx X scope N cl C s H ex pn) elt te)
    (hsw : swapsWith (.ListComp elt [⟨tg, iter, ifs, 0⟩] scope pos) (some (.Name y py)) spos.line X.env = pure true := by rfl) (hs : ∀ x, foldedSetIterable iter X.env x = pure x := by intro _; rfl) :
    PS X (.Assign [.Name y py] (.ListComp elt [⟨tg, iter, ifs, 0⟩] scope pos) spos) (tAsg (tComp wi tt tc te cap) (gName i)) := by
  intro pins s σ H D I h
  obtain ⟨cl, hclos, hcl1, hcl2⟩ := clos_of (scope := scope) (env := X.env) fun y hy hf => I.ok.has y.1 (S.free y hy hf)
  rw [exec_Assign_Name_used _ _ _ _ hsw]
  refine wpAny_bind (wpAny_standAt (wpAny_bind ?_))
  show wpAny _ X.A (do let _ ← comprehension (.ListComp elt [⟨tg, iter, ifs, 0⟩] scope pos) scope X.env _ (newList []) false (eval iter X.env) (some (assign (.Name y py) X.env))) _ _ s
  refine wpAny_bind (wpAny_mono (wpAny_comprehension_free (use := some (assign (.Name y py) X.env)) (Q := fun _ s' => SP X pins D .next s') rfl hs hclos S.kind S.loc ?_) (fun _ s' hq => wpAny_pure (wpAny_pure hq)) fun _ _ e => e)
  refine comp_core hc hi hg ht he S hcl1 hcl2 I h fun Da C s1 H' I1 B q => ?_
  show wpAny _ X.A (assign (.Name y py) X.env (.ref Da)) _ _ _
  refine wpAny_assign_Name (store_ok2 (v := .ref Da) I1 hN hiy (.inl hy) rfl (fun s' I' z => ?_) (.inr hy))
  obtain ⟨a, hsb, ha⟩ := z
  have hCa : C ≠ a := by
    rcases ha with rfl | ha
    · exact B.ne
    · exact fun e => B.cells _ _ ha e.symm
  obtain ⟨m, hm⟩ := B.ns
  refine ⟨m, hm.sameBut hsb hCa, fun h' sb => ?_⟩
  exact ⟨_, H', I'.turned (t' := s'.toks) (fun b o hb e => sb.extBut b o hb e) B.un B.ne (.inr B.new) B.cells B.pins, q⟩
end
end L2

set_option Elab.async false
set_option linter.all false
set_option maxRecDepth 100000
set_option maxHeartbeats 1000000
namespace L2
open PySem PySem.Spec PyProof.Rows

/-! ### data in the heap, by its shape -/
abbrev Rel (α : Type) := Hp → α → V → Prop
def rInt : Rel Int := fun _ i v => v = .int i
def rLst {α : Type} (R : Rel α) : Rel (List α) := fun H xs v => ∃ a vs, v = .ref a ∧ H a = some (.lst vs) ∧ Paired (R H) xs vs
def rT3 {α β γ : Type} (R : Rel α) (S : Rel β) (T : Rel γ) : Rel (α × β × γ) := fun H p v => ∃ a x y z, v = .ref a ∧ H a = some (.tup [x, y, z]) ∧ R H p.1 x ∧ S H p.2.1 y ∧ T H p.2.2 z

/-- it stays where all that was tracked stays -/
structure MonoR {α : Type} (R : Rel α) : Prop where
  go : ∀ (H H' : Hp) (x : α) (v : V), Same H H' → R H x v → R H' x v
theorem MonoR.up {α : Type} {R : Rel α} (m : MonoR R) {H H' : Hp} {x : α} {v : V} (s : Same H H') (h : R H x v) : R H' x v := m.go H H' x v s h
theorem mono_int : MonoR rInt := ⟨fun _ _ _ _ _ h => h⟩
theorem paired_mono {α : Type} {R : Rel α} (m : MonoR R) {H H' : Hp} (s : Same H H') {xs : List α} {vs : List V} (p : Paired (R H) xs vs) : Paired (R H') xs vs := Paired.mapP p fun _ _ q => m.up s q
theorem mono_lst {α : Type} {R : Rel α} (m : MonoR R) : MonoR (rLst R) := ⟨fun H H' x v s h => by
  obtain ⟨a, vs, e, h1, p⟩ := h
  exact ⟨a, vs, e, s _ _ h1, paired_mono m s p⟩⟩
theorem mono_t3 {α β γ : Type} {R : Rel α} {S : Rel β} {T : Rel γ} (m : MonoR R) (n : MonoR S) (o : MonoR T) : MonoR (rT3 R S T) := ⟨fun H H' x v s h => by
  obtain ⟨a, x, y, z, e, h1, p, q, r⟩ := h
  exact ⟨a, x, y, z, e, s _ _ h1, m.up s p, n.up s q, o.up s r⟩⟩
theorem paired_map {α β : Type} {F : α → β → Prop} {f : α → β} (h : ∀ a, F a (f a)) : ∀ xs : List α, Paired F xs (xs.map f)
  | [] => .nil
  | a :: r => .cons (h a) (paired_map h r)
theorem paired_ints {H : Hp} : ∀ {xs : List Int} {vs : List V}, Paired (rInt H) xs vs → vs = xs.map V.int
  | _, _, .nil => rfl
  | _, _, .cons h t => by rw [List.map_cons, ← paired_ints t]; exact congrArg (· :: _) h
theorem ints_paired {H : Hp} (xs : List Int) : Paired (rInt H) xs (xs.map V.int) := paired_map (F := rInt H) (f := V.int) (fun _ => rfl) xs
theorem rLst_ints {H : Hp} {xs : List Int} {v : V} : rLst rInt H xs v ↔ ∃ a, v = .ref a ∧ H a = some (.lst (xs.map V.int)) := by
  constructor
  · rintro ⟨a, vs, rfl, h, p⟩
    rw [paired_ints p] at h
    exact ⟨a, rfl, h⟩
  · rintro ⟨a, rfl, h⟩
    exact ⟨a, _, rfl, h, ints_paired xs⟩
theorem Paired.at {α β : Type} {F : α → β → Prop} : ∀ {xs : List α} {ys : List β} {i : Nat} {x : α}, Paired F xs ys → xs[i]? = some x → ∃ y, ys[i]? = some y ∧ F x y
  | _, _, _, _, .nil, e => by simp at e
  | _, _, 0, _, .cons r _, e => by simp at e; subst e; exact ⟨_, rfl, r⟩
  | _, _, i + 1, x, .cons _ t, e => by
    obtain ⟨u, h1, h2⟩ := Paired.at (i := i) (x := x) t (by simpa using e)
    exact ⟨u, by simpa using h1, h2⟩
theorem Paired.ta {α β : Type} {F : α → β → Prop} : ∀ {xs : List α} {ys : List β} {i : Nat} {y : β}, Paired F xs ys → ys[i]? = some y → ∃ x, xs[i]? = some x ∧ F x y
  | _, _, _, _, .nil, e => by simp at e
  | _, _, 0, _, .cons r _, e => by simp at e; subst e; exact ⟨_, rfl, r⟩
  | _, _, i + 1, x, .cons _ t, e => by
    obtain ⟨u, h1, h2⟩ := Paired.ta (i := i) (y := x) t (by simpa using e)
    exact ⟨u, by simpa using h1, h2⟩
theorem Paired.app {α β : Type} {F : α → β → Prop} : ∀ {xs xs' : List α} {ys ys' : List β}, Paired F xs ys → Paired F xs' ys' → Paired F (xs ++ xs') (ys ++ ys')
  | _, _, _, _, .nil, s => s
  | _, _, _, _, .cons r t, s => .cons r (Paired.app t s)

/-! ### == of two that hold the same -/
structure EqOk {α : Type} (n : Nat) (R : Rel α) : Prop where
  go : ∀ (X : Cx) (pins : List (Addr × Obj)) (σ : St) (H : Hp) (s : Shared) (A : Around) (x : α) (v w : V) (u1 u2 : Value),
    Inv X pins σ H s → A.units + n < cLine → R H x v → R H x w → RelV v u1 → RelV w u2 → SeqAt.EqAt A s u1 u2 true
theorem EqOk.at {α : Type} {n : Nat} {R : Rel α} (h : EqOk n R) {X : Cx} {pins : List (Addr × Obj)} {σ : St} {H : Hp} {s : Shared} {A : Around} {x : α} {v w : V} {u1 u2 : Value} (I : Inv X pins σ H s) (hu : A.units + n < cLine) (h1 : R H x v) (h2 : R H x w) (r1 : RelV v u1) (r2 : RelV w u2) : SeqAt.EqAt A s u1 u2 true :=
  h.go X pins σ H s A x v w u1 u2 I hu h1 h2 r1 r2
structure RcOk {α : Type} (n : Nat) (R : Rel α) : Prop where
  go : ∀ (X : Cx) (pins : List (Addr × Obj)) (σ : St) (H : Hp) (s : Shared) (A : Around) (x : α) (v w : V) (u1 u2 : Value),
    Inv X pins σ H s → A.units + n < cLine → R H x v → R H x w → RelV v u1 → RelV w u2 → SeqAt.RcAt A s u1 u2 true ∧ SeqAt.RcNeAt A s u1 u2 false
theorem RcOk.at {α : Type} {n : Nat} {R : Rel α} (h : RcOk n R) {X : Cx} {pins : List (Addr × Obj)} {σ : St} {H : Hp} {s : Shared} {A : Around} {x : α} {v w : V} {u1 u2 : Value} (I : Inv X pins σ H s) (hu : A.units + n < cLine) (h1 : R H x v) (h2 : R H x w) (r1 : RelV v u1) (r2 : RelV w u2) : SeqAt.RcAt A s u1 u2 true ∧ SeqAt.RcNeAt A s u1 u2 false :=
  h.go X pins σ H s A x v w u1 u2 I hu h1 h2 r1 r2
theorem EqOk.up {α : Type} {m n : Nat} {R : Rel α} (h : EqOk m R) (hm : m ≤ n) : EqOk n R := ⟨fun X pins σ H s A x v w u1 u2 I hu => h.go X pins σ H s A x v w u1 u2 I (by omega)⟩
theorem eqok_int : EqOk 0 rInt := by
  refine ⟨fun X pins σ H s A x v w u1 u2 I hu h1 h2 r1 r2 => ?_⟩
  have e1 : v = .int x := h1
  have e2 : w = .int x := h2
  subst e1; subst e2
  have := eqAt_V (A := A) (s := s) r1 r2 rfl rfl
  simpa [eqV] using this
theorem all_true (n : Nat) : (List.range n).all (fun _ => true) = true := by simp
theorem vals_two {α : Type} {R : Rel α} {H : Hp} {xs : List α} {vs ws : List V} {us1 us2 : List Value} (p1 : Paired (R H) xs vs) (p2 : Paired (R H) xs ws) (r1 : Vals vs us1) (r2 : Vals ws us2) :
    us1.length = us2.length ∧ ∀ (j : Nat) (a b : Value), us1[j]? = some a → us2[j]? = some b → ∃ x v w, R H x v ∧ R H x w ∧ RelV v a ∧ RelV w b := by
  induction p1 generalizing ws us1 us2 with
  | nil =>
    cases p2
    cases r1; cases r2
    exact ⟨rfl, fun j a b e => by simp at e⟩
  | cons h t ih =>
    cases p2 with
    | cons h' t' =>
      cases r1 with
      | cons q1 s1 =>
        cases r2 with
        | cons q2 s2 =>
          obtain ⟨e, f⟩ := ih t' s1 s2
          refine ⟨by simp [e], fun j a b ea eb => ?_⟩
          cases j with
          | zero => simp at ea eb; subst ea; subst eb; exact ⟨_, _, _, h, h', q1, q2⟩
          | succ j => exact f j a b (by simpa using ea) (by simpa using eb)
theorem rcok_lst {α : Type} {n : Nat} {R : Rel α} (h : EqOk n R) : RcOk (n + 1) (rLst R) := by
  refine ⟨fun X pins σ H s A xs v w u1 u2 I hu h1 h2 r1 r2 => ?_⟩
  obtain ⟨a, vs, e1, ha, p1⟩ := h1
  obtain ⟨b, ws, e2, hb, p2⟩ := h2
  subst e1; subst e2
  cases r1; cases r2
  obtain ⟨its, n1, rv1, o1, z1⟩ := I.lst ha
  obtain ⟨its2, n2, rv2, o2, z2⟩ := I.lst hb
  obtain ⟨el, f⟩ := vals_two p1 p2 rv1 rv2
  have hl1 : s.heap.IsList a its.toArray := ⟨_, o1, rfl, n1, rfl⟩
  have hl2 : s.heap.IsList b its2.toArray := ⟨_, o2, rfl, n2, rfl⟩
  have he : ∀ j (h1 : j < its.toArray.size) (h2 : j < its2.toArray.size), SeqAt.EqAt A.in1 s its.toArray[j] its2.toArray[j] ((fun _ => true) j) := fun j h1 h2 => by
    obtain ⟨x, v, w, q1, q2, q3, q4⟩ := f j (its.toArray[j]) (its2.toArray[j]) (by simp) (by simp)
    exact h.at I (by show A.units + 1 + n < cLine; omega) q1 q2 q3 q4
  have A1 := SeqAt.RcAt.lists hl1 hl2 (by simpa using el) (by omega) he
  have A2 := SeqAt.RcNeAt.lists hl1 hl2 (by simpa using el) (by omega) he
  rw [all_true] at A1 A2
  exact ⟨A1, A2⟩
theorem eqok_of {α : Type} {n : Nat} {R : Rel α} (h : RcOk n R) (href : ∀ {H : Hp} {x : α} {v : V}, R H x v → ∃ a, v = .ref a) : EqOk n R := by
  refine ⟨fun X pins σ H s A x v w u1 u2 I hu h1 h2 r1 r2 => ?_⟩
  obtain ⟨a, rfl⟩ := href h1
  obtain ⟨b, rfl⟩ := href h2
  have q := (h.at I hu h1 h2 r1 r2).1
  cases r1; cases r2
  by_cases e : a = b
  · subst e; exact SeqAt.EqAt.same _
  · exact SeqAt.EqAt.of_refs e q
theorem eqok_lst {α : Type} {n : Nat} {R : Rel α} (h : EqOk n R) : EqOk (n + 1) (rLst R) := eqok_of (rcok_lst h) fun z => by obtain ⟨a, _, e, _⟩ := z; exact ⟨a, e⟩
theorem rcok_t3 {α β γ : Type} {n : Nat} {R : Rel α} {S : Rel β} {T : Rel γ} (h : EqOk n R) (g : EqOk n S) (k : EqOk n T) : RcOk (n + 1) (rT3 R S T) := by
  refine ⟨fun X pins σ H s A xs v w u1 u2 I hu h1 h2 r1 r2 => ?_⟩
  obtain ⟨a, x1, y1, w1, e1, ha, p1, q1, m1⟩ := h1
  obtain ⟨b, x2, y2, w2, e2, hb, p2, q2, m2⟩ := h2
  subst e1; subst e2
  cases r1; cases r2
  obtain ⟨z1, its, rv1, t1⟩ := I.hok a _ ha
  obtain ⟨z2, its2, rv2, t2⟩ := I.hok b _ hb
  cases rv1 with
  | cons rc1 rv1 =>
    obtain ⟨c2, c3, rfl, rc2, rc3⟩ := Vals.two rv1
    cases rv2 with
    | cons rd1 rv2 =>
      obtain ⟨d2, d3, rfl, rd2, rd3⟩ := Vals.two rv2
      rename_i c1 d1
      have he : ∀ j (h1 : j < [c1, c2, c3].toArray.size) (h2 : j < [d1, d2, d3].toArray.size), SeqAt.EqAt A.in1 s [c1, c2, c3].toArray[j] [d1, d2, d3].toArray[j] ((fun _ => true) j) := fun j h1 h2 => by
        have hj : j = 0 ∨ j = 1 ∨ j = 2 := by have : j < 3 := h1; (clear hu z1 z2 h1 h2; omega)
        rcases hj with rfl | rfl | rfl
        · exact h.at I (by show A.units + 1 + n < cLine; omega) p1 p2 rc1 rd1
        · exact g.at I (by show A.units + 1 + n < cLine; omega) q1 q2 rc2 rd2
        · exact k.at I (by show A.units + 1 + n < cLine; omega) m1 m2 rc3 rd3
      have A1 := SeqAt.RcAt.tuples t1 t2 (by omega) he
      have A2 := SeqAt.RcNeAt.tuples t1 t2 (by omega) he
      simpa [all_true] using And.intro A1 A2
theorem eqok_t3 {α β γ : Type} {n : Nat} {R : Rel α} {S : Rel β} {T : Rel γ} (h : EqOk n R) (g : EqOk n S) (k : EqOk n T) : EqOk (n + 1) (rT3 R S T) := eqok_of (rcok_t3 h g k) fun z => by obtain ⟨a, _, _, _, e, _⟩ := z; exact ⟨a, e⟩

section
variable {X : Cx}
theorem op_neR {α : Type} {n : Nat} {R : Rel α} (ok : RcOk n R) (hu : X.A.units + n < cLine) : OpR X (compareOp .NotEq) (fun v w H Q => ∃ x, R H x v ∧ R H x w ∧ Q (.bl false) H) := by
  intro pins s σ H v w u1 u2 Q I r1 r2 h
  obtain ⟨x, h1, h2, q⟩ := h
  exact (ok.at I hu h1 h2 r1 r2).2 _ _ _ _ ⟨.bl false, H, I, rfl, q⟩

/-! ### isinstance(x, T) for the built-in kinds -/
/-- the kind's name -/
def kindV (H : Hp) : V → String → Prop
  | .non, T => T = "NoneType"
  | .bl _, T => T = "bool"
  | .int _, T => T = "int"
  | .str _, T => T = "str"
  | .ref a, T => (T = "list" ∧ ((∃ xs, H a = some (.lst xs)) ∨ ∃ o xs, H a = some (.frz o (.lst xs)))) ∨ (T = "tuple" ∧ ∃ xs, H a = some (.tup xs)) ∨ (T = "dict" ∧ ∃ kvs, H a = some (.dK kvs))
  | _, _ => False
theorem kindV.ty {K : PySem.W.Frag} {H : Hp} {x : V} {T : String} (h : kindV H x T) : TyOf K H x (.type T) := by
  cases x with
  | non => cases (show T = "NoneType" from h); exact .non
  | bl b => cases (show T = "bool" from h); exact .bl b
  | int i => cases (show T = "int" from h); exact .int i
  | str z => cases (show T = "str" from h); exact .str z
  | ref a =>
    rcases h with ⟨rfl, ⟨xs, e⟩ | ⟨o, xs, e⟩⟩ | ⟨rfl, xs, e⟩ | ⟨rfl, kvs, e⟩
    · exact .lst e
    · exact .frz e
    · exact .tup e
    · exact .dK e
  | _ => exact False.elim h
theorem call_isi {T : String} : CallR X (.builtin "isinstance") (fun xs H Q => ∃ x S b, xs = [x, .ty T] ∧ kindV H x S ∧ PySem.W.kitOne X.K (.type S) (.type T) = some b ∧ Q (.bl b) H) := by
  intro pins s σ H xs us Q I r h
  obtain ⟨x, S, b, rfl, hk, e, q⟩ := h
  obtain ⟨u, c, rfl, ru, rc⟩ := r.two
  cases (show c = Value.type T from rc)
  exact isinst_ok I ru hk.ty e fun tk => ⟨.bl b, H, I.tok _, rfl, q⟩
theorem isi_same {K : PySem.W.Frag} (T : String) : PySem.W.kitOne K (.type T) (.type T) = some true := by
  unfold PySem.W.kitOne
  rw [if_pos (by simp)]
theorem isi_int_bool {K : PySem.W.Frag} : PySem.W.kitOne K (.type "int") (.type "bool") = some false := rfl

/-! ### xs.index(k) of a list of ints -/
end
end L2

set_option Elab.async false
set_option linter.all false
set_option maxRecDepth 100000
set_option maxHeartbeats 1000000
namespace L2
open PySem PySem.Spec PyProof.Rows

/-- what of a comprehension's scope is written in the text, as a test -/
def compOkB (scope psc : Scope) (N PN : List Str) (k : Nat) (cap : List Nat) : Bool :=
  (scope.kind == .function) && (N.length == k + cap.length) &&
  (scope.names.all fun y => (y.2 != .cell) && (y.2 != .local || scope.names.lookup y.1 == some .local) &&
    (y.2 != .free || (scope.names.lookup y.1 == some .free && (psc.names.lookup y.1 == some .cell || psc.names.lookup y.1 == some .free)))) &&
  ((List.range cap.length).all fun j => match N[k + j]?, cap[j]? with
    | some x, some i => PN[i]? == some x && scope.names.lookup x == some .free
    | _, _ => false)
theorem compOk_of {scope psc : Scope} {N PN : List Str} {k : Nat} {cap : List Nat} (h : compOkB scope psc N PN k cap = true) : CompOk scope psc N PN k cap := by
  unfold compOkB at h
  simp only [Bool.and_eq_true] at h
  obtain ⟨⟨⟨h1, h2⟩, h3⟩, h4⟩ := h
  rw [List.all_eq_true] at h3 h4
  have q : ∀ y ∈ scope.names, y.2 ≠ .cell ∧ (y.2 = .local → scope.names.lookup y.1 = some .local) ∧ (y.2 = .free → scope.names.lookup y.1 = some .free ∧ (psc.names.lookup y.1 = some .cell ∨ psc.names.lookup y.1 = some .free)) := fun y hy => by
    have := h3 y hy
    simp only [Bool.and_eq_true, Bool.or_eq_true, bne_iff_ne, beq_iff_eq] at this
    obtain ⟨⟨a, b⟩, c⟩ := this
    exact ⟨a, fun e => b.elim (fun z => absurd e z) id, fun e => c.elim (fun z => absurd e z) id⟩
  refine ⟨by simpa using h1, by simpa using h2, fun y hy => (q y hy).1, fun y hy => (q y hy).2.1, fun y hy e => ((q y hy).2.2 e).2, fun j hj => ?_, fun y hy e => ((q y hy).2.2 e).1⟩
  have := h4 j hj
  split at this
  · rename_i x i e1 e2
    simp only [Bool.and_eq_true, beq_iff_eq] at this
    exact ⟨x, i, e1, e2, this.1, this.2⟩
  · cases this

section
variable {X : Cx} {elt tg iter : Expr} {ifs : List Expr} {scope : Scope} {pos : Pos} {wi : TI} {tt : TTg} {tc : TT} {te : TE}
theorem pe_lc (psc : Scope) (PN N : List Str) (k : Nat) (cap : List Nat) (hi : PI X tg iter wi) (hg : ∀ cl C s H ex pn, PTg (compCx X scope N cl C s H ex pn) k tg tt) (ht : ∀ cl C s H ex pn, PTs (compCx X scope N cl C s H ex pn) ifs tc)
    (he : ∀ cl C s H ex pn, PE (compCx X scope N cl C s H ex pn) elt te) (hc : X.calm = true := by rfl) (h1 : X.env.scope = psc := by rfl) (h2 : X.N = PN := by rfl) (S : compOkB scope psc N PN k cap = true := by decide +kernel)
    (hs : ∀ x, foldedSetIterable iter X.env x = pure x := by intro _; rfl) :
    PE X (.ListComp elt [⟨tg, iter, ifs, 0⟩] scope pos) (tComp wi tt tc te cap) := pe_comp hc (by rw [h1, h2]; exact compOk_of S) hi hg ht he hs
theorem ps_lc {i : Nat} {y : Str} {py spos : Pos} (psc : Scope) (PN N : List Str) (k : Nat) (cap : List Nat) (hN : X.N.Nodup) (hiy : X.N[i]? = some y) (hy : X.env.scope.names.lookup y = some .local) (hi : PI X tg iter wi)
    (hg : ∀ cl C s H ex pn, PTg (compCx X scope N cl C s H ex pn) k tg tt) (ht : ∀ cl C s H ex pn, PTs (compCx X scope N cl C s H ex pn) ifs tc)
    (he : ∀ cl C s H ex pn, PE (compCx X scope N cl C s H ex pn) elt te) (hc : X.calm = true := by rfl) (h1 : X.env.scope = psc := by rfl) (h2 : X.N = PN := by rfl) (S : compOkB scope psc N PN k cap = true := by decide +kernel)
    (hsw : swapsWith (.ListComp elt [⟨tg, iter, ifs, 0⟩] scope pos) (some (.Name y py)) spos.line X.env = pure true := by rfl) (hs : ∀ x, foldedSetIterable iter X.env x = pure x := by intro _; rfl) :
    PS X (.Assign [.Name y py] (.ListComp elt [⟨tg, iter, ifs, 0⟩] scope pos) spos) (tAsg (tComp wi tt tc te cap) (gName i)) := ps_setC hc (by rw [h1, h2]; exact compOk_of S) hN hiy hy hi hg ht he hsw hs
end

/-! ### the forms one uses: a comprehension over a list, over a range -/

/-! ### a def's promise under its name -/
structure Dn (P : Program) (w : World) (K : PySem.W.Frag) (mg : Str → Option Value) (base : Heap) (x : Str) (n : Nat) (ps : List Str) (sp : Sp) : Prop where
  ex : ∃ f fd, FnOk P w K mg base CX0 n f fd ps sp ∧ mg x = some (.ref f) ∧ PySem.W.keepIn K (.ref f) = true ∧ Binds K fd ps []
structure DefAt (K : PySem.W.Frag) (mg : Str → Option Value) (x : Str) (st : Stmt) (ps : List Str) : Prop where
  ex : ∃ f fd, Fun K x x st f fd ∧ mg x = some (.ref f) ∧ Binds K fd ps []
section
variable {P : Program} {w : World} {K : PySem.W.Frag} {mg : Str → Option Value} {base : Heap}
theorem DefAt.ok {x : Str} {st : Stmt} {N ps : List Str} {k : Nat} {sp : Sp} (F : DefAt K mg x st ps) (S : FnScope N ps (defScope st)) (len : ∀ vs H Q E, sp vs H Q E → vs.length = ps.length)
    (hbody : ∀ (f : Addr) (cdv : Value) (A : Around) (outer : List Env) (s : Shared) (H : Hp) (vs : List V) (Q : VK) (E : XK), Room k (A.deeper (envOfC x (defScope st) s.heap.objs.size f cdv)) → sp vs H Q E →
      ∃ t, PSs (cxOf CX0 P w K mg base N x (defScope st) f cdv A outer s H E).nox (defBody st) t ∧ t { nx := fun _ H' => Q .non H', rt := Q } (start N vs) H) : Dn P w K mg base x (k + 1) ps sp := by
  obtain ⟨f, fd, F, hm, hb⟩ := F.ex
  exact ⟨f, fd, F.ok S len fun cdv A outer s H vs Q E => hbody f cdv A outer s H vs Q E, hm, F.kp, hb⟩
end
theorem pe_dn {X : Cx} {x : Str} {n k : Nat} {ps : List Str} {sp : Sp} {e : Expr} {es : List Expr} {t : TA} {p pos : Pos} (D : Dn X.prog X.w X.K X.mg X.base x n ps sp) (hr : Room k X.A) (ha : PA X (e :: es) t) (hk : n ≤ k := by decide) (hg : Gl X x := by rfl)
    (hdb : (x == ("__debug__" : Str)) = false := by decide) (he : starEach (e :: es) X.env = (false, eval e X.env) :: starEach es X.env := by rfl) (hpl : (backTo pos (starEach es X.env)).any (·.1) = false := by rfl) :
    PE X (.Call (.Name x p) (e :: es) [] pos) (tCall sp [] E0 t) := by
  obtain ⟨f, fd, F, hm, kp, hb⟩ := D.ex
  exact pe_call F (hr.mono hk) hg hm kp hb .nil pass0 ha hdb he hpl
theorem hu_n {A : Around} {k : Nat} (hr : Room k A) (n : Nat) (h : n ≤ 64 := by decide) : A.units + n < cLine := Nat.lt_of_le_of_lt (Nat.add_le_add_left h _) hr.units
/-- a statement, then the rest, by what holds between the two -/
def tSeqM (t u : TS) : TS := fun D σ H => ∃ M : St → Hp → Prop, t { D with nx := M } σ H ∧ ∀ σ' H', M σ' H' → u D σ' H'
theorem pss_cut {X : Cx} {st : Stmt} {rest : List Stmt} {t u : TS} (h1 : PS X st t) (h2 : PSs X rest u) : PSs X (st :: rest) (tSeqM t u) := by
  intro pins s σ H D I h
  obtain ⟨M, h, k⟩ := h
  refine wpAny_execs_cons (thn (h1 pins s σ H { D with nx := M } I h) fun f s1 q => ?_)
  cases f with
  | next =>
    obtain ⟨σ', H', I', q⟩ := q
    exact h2 pins s1 σ' H' D I' (k σ' H' q)
  | ret v => exact q
  | brk => exact q
  | cont => exact q

/-! ### homes: the part of a heap that is new -/
def newp (H H' : Hp) : Hp := fun b => match H b with
  | none => H' b
  | some _ => none
theorem newp_same (H H' : Hp) : Same (newp H H') H' := fun b o e => by
  unfold newp at e
  cases q : H b with
  | none => rw [q] at e; exact e
  | some u => rw [q] at e; cases e
theorem newp_none {H H' : Hp} {b : Addr} {o : HO} (h : H b = some o) : newp H H' b = none := by unfold newp; rw [h]
theorem newp_at {H H' : Hp} {b : Addr} (h : H b = none) : newp H H' b = H' b := by unfold newp; rw [h]
theorem newp_mono {H H1 H' H2 : Hp} (a : Same H H1) (b : Same H' H2) : Same (newp H1 H') (newp H H2) := fun c o e => by
  cases q : H1 c with
  | some u => rw [newp_none q] at e; cases e
  | none =>
    rw [newp_at q] at e
    rw [newp_at (a.free q)]
    exact b c o e
theorem same_upd {H : Hp} {p : Addr} (h : H p = none) (o : HO) : Same H (upd H p o) := fun b u q => by rw [upd_ne (ne_of_none q h)]; exact q
/-- a change at an address that is not of the home -/
theorem Same.put {Hs H : Hp} {p : Addr} (s : Same Hs H) (h : Hs p = none) (o : HO) : Same Hs (upd H p o) := fun b u q => by
  rw [upd_ne (ne_of_none q h)]; exact s b u q
theorem small {n m : Nat} (h : n ≤ m) (hm : m ≤ 1000000 := by decide) : n ≤ sizeLine := Nat.le_trans h (Nat.le_trans hm (by decide))
theorem atI_ints {ns : List Int} {k : Int} (h0 : 0 ≤ k) (h1 : k < ns.length) : atI (ns.map V.int) k = some (.int (ns.getD k.toNat 0)) := by
  have hk : k.toNat < ns.length := by omega
  have ek : k = ((k.toNat : Nat) : Int) := by omega
  rw [ek]
  refine (atI_nat (v := V.int (ns.getD k.toNat 0)) ?_)
  simp [hk]
theorem comp_yes {x : V} {H : Hp} {f : List V → St} {A B : List V → Hp → Prop} (h : A [x] H) : ttName x H fun ws => tYes (f ws) H fun b H4 => if b = true then A ws H4 else B ws H4 := by
  show if true = true then A [x] H else B [x] H
  rw [if_pos rfl]; exact h
theorem comp_yesT {K : PySem.W.Frag} {n : Nat} {a : Addr} {xs : List V} {H : Hp} {f : List V → St} {A B : List V → Hp → Prop} (hq : SqT K H a xs) (hn : xs.length = n) (h : A xs H) : ttTup K n (.ref a) H fun ws => tYes (f ws) H fun b H4 => if b = true then A ws H4 else B ws H4 := by
  refine ⟨a, xs, rfl, hq, hn, ?_⟩
  show if true = true then A xs H else B xs H
  rw [if_pos rfl]; exact h
end L2

set_option Elab.async false
set_option linter.all false
set_option maxRecDepth 100000
set_option maxHeartbeats 1000000
namespace L2
open PySem PySem.Spec PyProof.Rows

theorem ints_of : ∀ (vs : List Value), (∀ v ∈ vs, ∃ k t, v = Value.int k t) → ∃ ns, IntsAre vs ns
  | [], _ => ⟨[], .nil⟩
  | v :: r, h => by
    obtain ⟨k, t, rfl⟩ := h v List.mem_cons_self
    obtain ⟨ns, q⟩ := ints_of r fun u hu => h u (List.mem_cons_of_mem _ hu)
    exact ⟨k :: ns, .cons k t q⟩
theorem vals_of : ∀ {vs : List Value} {ns : List Int}, IntsAre vs ns → Vals (ns.map V.int) vs
  | _, _, .nil => .nil
  | _, _, .cons _ t r => .cons ⟨t, rfl⟩ (vals_of r)
section
variable {prog : Program} {w : World} {A : Around} {E : Value → Shared → Prop} {s : Shared} {T : String} {r d : Addr} {n : Nat} {P : Nat → Value → Prop} {OK : Heap → Prop} {Q : Value → Shared → Prop}
end

section
variable {X : Cx}

/-! ### range objects; list(range(n)) -/
def tRange (ta : TA) : TE := fun σ H Q => ta σ H fun vs H1 => ∃ j : Int, vs = [.int j] ∧ ∀ p, H1 p = none → Q (.ref p) (upd H1 p (.rng 0 j))
theorem pe_range1 {a : Expr} {ta : TA} {p pos : Pos} (hg : Gl X "range") (hm : X.mg "range" = none) (ha : PA X [a] ta) (hs : starEach [a] X.env = [(false, eval a X.env)] := by rfl) : PE X (.Call (.Name "range" p) [a] [] pos) (tRange ta) := by
  intro pins s σ H Q I h
  refine Call_ (ld_blt I hg hm boot_range (PyProof.Rows.callWith_type1 (thn (ha pos pins s σ H _ I h) fun us s1 ⟨vs, H1, I1, r1, q1⟩ => ?_) hs rfl))
  obtain ⟨j, e, q⟩ := q1
  subst e
  cases r1 with
  | cons r rr =>
    cases rr
    obtain ⟨t, rfl⟩ := r
    refine call_range_1 ⟨.ref s1.heap.objs.size, _, I1.laid (o := .rng 0 j) (fun b o e => Heap.get?_push_of_some _ e) (Nat.le_refl _) ⟨_, _, _, Heap.get?_push_size _ rfl⟩, rfl, q _ I1.fresh⟩
theorem call_list_rng (hc : X.calm = true) : CallR X (.type "list") (fun xs H Q => ∃ (a : Addr) (j : Int), xs = [.ref a] ∧ H a = some (.rng 0 j) ∧ j ≤ 100000 ∧ -100000 ≤ j ∧
    ∀ p, H p = none → Q (.ref p) (upd H p (.lst (((List.range j.toNat).map fun (i : Nat) => (i : Int)).map V.int)))) := by
  intro pins s σ H xs us Q I r h
  obtain ⟨a, j, rfl, ha, hj, hj2, q⟩ := h
  obtain ⟨u, rfl, ru⟩ := vals1 r
  cases ru
  obtain ⟨t, u, v, ho⟩ := I.hok a _ ha
  have hn : Builtin.Range.rangeSize 0 j 1 = ((j.toNat : Nat) : Int) := by rw [rangeSize_one]; split <;> omega
  refine call_list_range (n := j.toNat) (I.ok.hd hc) ho (small_one (by decide) (by decide) (by omega) (by omega)) hn (by omega) fun h' tk acc c' k ho' hacc => ?_
  have hI : IntsAre acc.toList ((List.range j.toNat).map fun (i : Nat) => (i : Int)) := by
    obtain ⟨ns, hns⟩ := ints_of acc.toList fun v hv => by
      obtain ⟨i, hi⟩ := List.getElem?_of_mem hv
      obtain ⟨t, e⟩ := hacc.2 i v (by rw [← Array.getElem?_toList]; exact hi)
      exact ⟨_, t, e⟩
    have e : ns = (List.range j.toNat).map fun (i : Nat) => (i : Int) := by
      have hl := hns.length
      have hs : acc.toList.length = j.toNat := by rw [Array.length_toList]; exact hacc.1
      refine List.ext_getElem? fun i => ?_
      by_cases hi : i < acc.toList.length
      · obtain ⟨w', hw⟩ : ∃ w', acc.toList[i]? = some w' := ⟨acc.toList[i], by simp⟩
        obtain ⟨t, e1⟩ := hacc.2 i w' (by rw [← Array.getElem?_toList]; exact hw)
        obtain ⟨t', e2⟩ := IntsAre.int_at hns i _ hw
        rw [e1] at e2
        injection e2 with e2 _
        have h1 : i < ns.length := by (clear hc hj hj2 q hn e2 k hs; omega)
        have h2 : i < j.toNat := by (clear hc hj hj2 q hn k e2 h1 hl; omega)
        have h3 : ns.getD i 0 = (i : Int) := by rw [← e2]; (clear hc hj hj2 q hn k hl hs hi e2 h1 h2; omega)
        simp [List.getD, h1] at h3
        simp [h1, h2, h3]
      · rw [List.getElem?_eq_none (by (clear hc hj hj2 q hn k hs; omega)), List.getElem?_eq_none (by simp; (clear hc hj hj2 q hn k hl; omega))]
    rw [← e]; exact hns
  have hz : (((List.range j.toNat).map fun (i : Nat) => (i : Int)).map V.int).length ≤ sizeLine := by simp only [List.length_map, List.length_range]; exact small (m := 100000) (by omega)
  refine ⟨.ref s.heap.objs.size, _, I.laid (t' := tk) (o := .lst _) k (Nat.le_refl _) ⟨hz, acc.toList, c', vals_of hI, by simpa using ho'⟩, rfl, q _ I.fresh⟩

/-! ### max, min of a list of ints -/
end
end L2

set_option Elab.async false
set_option linter.all false
set_option maxRecDepth 100000
set_option maxHeartbeats 1000000
namespace L2
open PySem PySem.Spec PyProof.Rows

/-! ### sets: their table -/
def Ris (xs : List Nat) : Prop := xs.Pairwise (· < ·)
theorem Ris.lt {xs : List Nat} (h : Ris xs) {i j a b : Nat} (hij : i < j) (ha : xs[i]? = some a) (hb : xs[j]? = some b) : a < b := by
  obtain ⟨h1, e1⟩ := List.getElem?_eq_some_iff.mp ha
  obtain ⟨h2, e2⟩ := List.getElem?_eq_some_iff.mp hb
  have := List.pairwise_iff_getElem.mp h i j h1 h2 hij
  rw [e1, e2] at this; exact this
theorem below_go (xs : Array Nat) (hr : Ris xs.toList) (j : Nat) : ∀ (fuel lo hi : Nat), hi - lo ≤ fuel → lo ≤ hi → hi ≤ xs.size → (∀ (i v : Nat), i < lo → xs.toList[i]? = some v → v < j) → (∀ (i v : Nat), hi ≤ i → xs.toList[i]? = some v → j ≤ v) →
    SetTable.below.go xs j fuel lo hi ≤ xs.size ∧ (∀ (i v : Nat), i < SetTable.below.go xs j fuel lo hi → xs.toList[i]? = some v → v < j) ∧ ∀ (i v : Nat), SetTable.below.go xs j fuel lo hi ≤ i → xs.toList[i]? = some v → j ≤ v
  | 0, lo, hi, h1, h2, h3, h4, h5 => by
    have e : lo = hi := by omega
    subst e
    exact ⟨h3, h4, h5⟩
  | fuel + 1, lo, hi, h1, h2, h3, h4, h5 => by
    rw [SetTable.below.go]
    by_cases hl : lo < hi
    · rw [if_pos hl]
      have hm : (lo + hi) / 2 < xs.size := by (clear h1 h2 h4 h5; omega)
      have hg : xs.toList[(lo + hi) / 2]? = some (xs.getD ((lo + hi) / 2) j) := by
        rw [Array.getElem?_toList, Array.getElem?_eq_getElem hm]
        simp [Array.getD, hm]
      dsimp only
      by_cases hc : xs.getD ((lo + hi) / 2) j < j
      · rw [if_pos hc]
        refine below_go xs hr j fuel _ _ (by (clear h5 hl hm hc h3 h4 h2; omega)) (by (clear h1 h2 h3 h4 hm hc h5; omega)) h3 (fun i v hi' hv => ?_) h5
        by_cases e : i = (lo + hi) / 2
        · subst e; rw [hg] at hv; cases hv; exact hc
        · exact Nat.lt_trans (hr.lt (by (clear h1 h2 h3 h4 h5 hl hm hc; omega)) hv hg) hc
      · rw [if_neg hc]
        refine below_go xs hr j fuel _ _ (by (clear h5 hl hm hc h3 h4 h2; omega)) (by (clear h1 h2 h3 h4 hm hc h5; omega)) (by (clear h1 h2 h3 h4 h5 hl hc; omega)) h4 (fun i v hi' hv => ?_)
        by_cases e : i = (lo + hi) / 2
        · subst e; rw [hg] at hv; cases hv; (clear h1 h2 h3 h4 h5 hi' hl hm; omega)
        · have := hr.lt (by (clear h1 h2 h3 h4 h5 hl hm hc; omega) : (lo + hi) / 2 < i) hg hv; (clear h1 h2 h3 h4 h5 hl hi' e hm; omega)
    · rw [if_neg hl]
      have e : lo = hi := by (clear h3 h4 h1 h5; omega)
      subst e
      exact ⟨h3, h4, h5⟩
theorem below_spec (xs : Array Nat) (hr : Ris xs.toList) (j : Nat) : SetTable.below xs j ≤ xs.size ∧ (∀ (i v : Nat), i < SetTable.below xs j → xs.toList[i]? = some v → v < j) ∧ ∀ (i v : Nat), SetTable.below xs j ≤ i → xs.toList[i]? = some v → j ≤ v :=
  below_go xs hr j xs.size 0 xs.size (by omega) (Nat.zero_le _) (Nat.le_refl _) (fun i v h => by omega) (fun i v h e => by
    have := (List.getElem?_eq_some_iff.mp e).1
    rw [Array.length_toList] at this; omega)
theorem below_at {xs : Array Nat} (hr : Ris xs.toList) {k v : Nat} (h : xs.toList[k]? = some v) : SetTable.below xs (v + 1) = k + 1 := by
  obtain ⟨h1, h2, h3⟩ := below_spec xs hr (v + 1)
  have hk := (List.getElem?_eq_some_iff.mp h).1
  rw [Array.length_toList] at hk
  rcases Nat.lt_trichotomy (SetTable.below xs (v + 1)) (k + 1) with hlt | he | hgt
  · have := h3 k v (by omega) h; omega
  · exact he
  · have hk1 : k + 1 < xs.size := by omega
    obtain ⟨u, hu⟩ : ∃ u, xs.toList[k + 1]? = some u := ⟨xs[k + 1], by rw [Array.getElem?_toList, Array.getElem?_eq_getElem hk1]⟩
    have a := h2 (k + 1) u hgt hu
    have b := hr.lt (Nat.lt_succ_self k) h hu
    (clear h1 h2 h3 hk hgt hk1; omega)
theorem below_zero {xs : Array Nat} (hr : Ris xs.toList) : SetTable.below xs 0 = 0 := by
  obtain ⟨h1, h2, _⟩ := below_spec xs hr 0
  cases e : SetTable.below xs 0 with
  | zero => rfl
  | succ k =>
    have hk : 0 < xs.size := by omega
    have := h2 0 xs[0] (by omega) (by rw [Array.getElem?_toList, Array.getElem?_eq_getElem hk])
    omega
theorem ris_insert {xs : Array Nat} (hr : Ris xs.toList) {j : Nat} (hn : xs[SetTable.below xs j]? ≠ some j) : Ris (SetTable.insertAt xs (SetTable.below xs j) j).toList := by
  obtain ⟨h1, h2, h3⟩ := below_spec xs hr j
  rw [SetTable.toList_insertAt]
  have hlt : ∀ a ∈ xs.toList.take (SetTable.below xs j), a < j := fun a ha => by
    obtain ⟨i, hi⟩ := List.getElem?_of_mem ha
    have hi' : i < SetTable.below xs j := by
      have := (List.getElem?_eq_some_iff.mp hi).1
      rw [List.length_take] at this; omega
    rw [List.getElem?_take_of_lt hi'] at hi
    exact h2 i a hi' hi
  have hgt : ∀ b ∈ xs.toList.drop (SetTable.below xs j), j < b := fun b hb => by
    obtain ⟨i, hi⟩ := List.getElem?_of_mem hb
    rw [List.getElem?_drop] at hi
    have hle := h3 _ b (Nat.le_add_right _ i) hi
    rcases Nat.lt_or_eq_of_le hle with z | z
    · exact z
    · subst z
      exfalso
      cases i with
      | zero => rw [Nat.add_zero, Array.getElem?_toList] at hi; exact hn hi
      | succ i =>
        obtain ⟨u, hu⟩ : ∃ u, xs.toList[SetTable.below xs j]? = some u := by
          have hs := (List.getElem?_eq_some_iff.mp hi).1
          have : SetTable.below xs j < xs.toList.length := by (clear hn h1 h2 h3 hlt hle; omega)
          exact ⟨xs.toList[SetTable.below xs j], by simp⟩
        have a := h3 _ u (Nat.le_refl _) hu
        have b := hr.lt (by omega : SetTable.below xs j < SetTable.below xs j + (i + 1)) hu hi
        omega
  refine List.pairwise_append.mpr ⟨hr.sublist (List.take_sublist _ _), List.pairwise_cons.mpr ⟨hgt, hr.sublist (List.drop_sublist _ _)⟩, fun a ha b hb => ?_⟩
  rcases List.mem_cons.mp hb with rfl | hb
  · exact hlt a ha
  · exact Nat.lt_trans (hlt a ha) (hgt b hb)
structure Tab (led : Bool) (t : SetTable) : Prop where
  led : t.led = led
  dum : t.dummies = #[]
  ris : Ris t.place.toList
theorem Tab.standIn {led : Bool} {t : SetTable} (h : Tab led t) (n : Nat) : Tab led (t.standIn n) := ⟨h.led, rfl, by
  show Ris (Array.range n).toList
  rw [Array.toList_range]
  exact List.pairwise_lt_range⟩
theorem has_nil (j : Nat) : SetTable.has #[] j = false := by
  unfold SetTable.has
  simp
theorem slot_eq (t : SetTable) (j : Nat) : t.slot j = if (t.place[SetTable.below t.place j]? == some j) = true then .live (SetTable.below t.place j) else if SetTable.has t.dummies j = true then .dummy else .empty := rfl
theorem probe_free {t : SetTable} (hd : t.dummies = #[]) (f : Nat → Int) (h : Int) : ∀ (fuel : Nat) (p : SetTable.Probe) (j : Nat) (d : Option Nat), p.dummy = none → SetTable.probe.go t f h fuel p = some (.empty j d) → d = none ∧ t.place[SetTable.below t.place j]? ≠ some j
  | 0, p, j, d, _, e => by rw [SetTable.probe.go] at e; cases e
  | fuel + 1, p, j, d, hp, e => by
    rw [SetTable.probe.go] at e
    have hadv : (t.advance p).dummy = none := by
      unfold SetTable.advance
      split
      · exact hp
      · exact hp
    split at e
    · rename_i hs
      cases e
      refine ⟨hp, fun hc => ?_⟩
      rw [slot_eq, hc] at hs
      simp at hs
    · rename_i hs
      rw [slot_eq, hd, has_nil] at hs
      exfalso
      by_cases hb : (t.place[SetTable.below t.place p.j]? == some p.j) = true
      · rw [if_pos hb] at hs; cases hs
      · rw [if_neg hb] at hs; simp at hs
    · split at e
      · cases e
      · exact probe_free hd f h fuel _ j d hadv e
theorem Tab.layNew {led : Bool} {t : SetTable} (T : Tab led t) (es : Array (Int × Value)) (h : Int) (x : Value) : Tab led (layNew t es h x).2.1 := by
  unfold PySem.layNew
  cases e : t.freeSlot h with
  | none => exact T.standIn _
  | some sw =>
    obtain ⟨slot, wd⟩ := sw
    dsimp only
    have key : Tab led (t.put slot).1 := by
      have hne : t.place[SetTable.below t.place slot]? ≠ some slot := by
        unfold SetTable.freeSlot at e
        split at e
        · rename_i j d hp
          cases e
          unfold SetTable.probe at hp
          obtain ⟨e1, e2⟩ := probe_free T.dum _ _ _ _ _ _ rfl hp
          subst e1
          exact e2
        · cases e
      refine ⟨T.led, ?_, ris_insert T.ris hne⟩
      show (if SetTable.has t.dummies slot then _ else t.dummies) = #[]
      rw [T.dum, has_nil]; rfl
    unfold SetTable.orStandIn
    split
    · exact key
    · exact key.standIn _
theorem filterMap_range_ris (f : Nat → Option Nat) (n : Nat) : Ris (((List.range n).filterMap fun j => (f j).map fun k => (j, k)).map (·.1)) := by
  have : Ris (((List.range n).filterMap fun j => (f j).map fun k => (j, k)).map (·.1)) := by
    have e : ((List.range n).filterMap fun j => (f j).map fun k => (j, k)).map (·.1) = (List.range n).filter fun j => (f j).isSome := by
      induction (List.range n) with
      | nil => rfl
      | cons a r ih =>
        cases h : f a with
        | none => simp [List.filterMap_cons, h, ih]
        | some k => simp [List.filterMap_cons, h, ih]
    rw [e]
    exact List.pairwise_lt_range.sublist List.filter_sublist
  exact this
theorem Tab.relay {led : Bool} {t : SetTable} (T : Tab led t) (es : Array (Int × Value)) (wanted : Nat) : Tab led (relayAll t es wanted).2.1 := by
  unfold relayAll
  cases e : t.relaid (es.map (·.1)) wanted with
  | none => exact T.standIn _
  | some q =>
    obtain ⟨t', order⟩ := q
    dsimp only
    split
    · unfold SetTable.relaid SetTable.laid at e
      cases e2 : SetTable.layClean (SetTable.sizeAbove wanted - 1) (es.map (·.1)) with
      | none => rw [e2] at e; cases e
      | some owner =>
        rw [e2] at e
        cases e
        refine ⟨T.led, rfl, ?_⟩
        have := filterMap_range_ris (fun j => owner.getD j none) (SetTable.sizeAbove wanted - 1 + 1)
        simpa using this
    · exact T.standIn _
end L2

set_option Elab.async false
set_option linter.all false
set_option maxRecDepth 100000
set_option maxHeartbeats 2000000
namespace L2
open PySem PySem.Spec PyProof.Rows

/-- a set of ints at a, its table in order -/
def SetI (P : Program) (w : World) (h : Heap) (a : Addr) (led : Bool) (ks : List Int) : Prop :=
  ∃ (o : Obj) (es : Array (Int × Value)) (ep : Nat) (t : SetTable) (ns : List Int), h.get? a = some o ∧ o.ExactSet ∧ o.data = .set es ep t ∧ ElemsOf (intKind P w) es.toList ∧ IntsAre (es.toList.map (·.2)) ns ∧ ns.Nodup ∧ (∀ k, k ∈ ns ↔ k ∈ ks) ∧
    es.size < scanBound ∧ t.fits es.size = true ∧ Tab led t
theorem SetI.keep {P : Program} {w : World} {h h' : Heap} {a : Addr} {led : Bool} {ks : List Int} (S : SetI P w h a led ks) (k : ∀ o, h.get? a = some o → h'.get? a = some o) : SetI P w h' a led ks := by
  obtain ⟨o, es, ep, t, ns, e, r⟩ := S
  exact ⟨o, es, ep, t, ns, k o e, r⟩
theorem ints_perm : ∀ {l l' : List Value} {ns : List Int}, l'.Perm l → IntsAre l ns → ∃ ns', IntsAre l' ns' ∧ ns'.Perm ns := by
  intro l l' ns hp
  induction hp generalizing ns with
  | nil => intro h; exact ⟨ns, h, .refl _⟩
  | cons x _ ih =>
    intro h
    cases h with
    | cons n t r =>
      obtain ⟨ns', h1, h2⟩ := ih r
      exact ⟨n :: ns', .cons n t h1, h2.cons n⟩
  | swap x y l =>
    intro h
    cases h with
    | cons n t r =>
      cases r with
      | cons m u r => exact ⟨m :: n :: _, .cons m u (.cons n t r), .swap n m _⟩
  | trans _ _ ih1 ih2 =>
    intro h
    obtain ⟨n1, a1, a2⟩ := ih2 h
    obtain ⟨n2, b1, b2⟩ := ih1 a1
    exact ⟨n2, b1, b2.trans a2⟩
theorem ints_map_perm {l l' : List (Int × Value)} {ns : List Int} (hp : l'.Perm l) (h : IntsAre (l.map (·.2)) ns) : ∃ ns', IntsAre (l'.map (·.2)) ns' ∧ ns'.Perm ns := ints_perm (hp.map _) h
theorem nodup_sub : ∀ (l1 l2 : List Int), l1.Nodup → (∀ x ∈ l1, x ∈ l2) → l1.length ≤ l2.length
  | [], _, _, _ => Nat.zero_le _
  | x :: l1, l2, hn, hs => by
    have hx : x ∈ l2 := hs x List.mem_cons_self
    have hxn := (List.nodup_cons.mp hn).1
    have := nodup_sub l1 (l2.erase x) (List.nodup_cons.mp hn).2 fun y hy => (List.mem_erase_of_ne (fun e => by subst e; exact hxn hy)).mpr (hs y (List.mem_cons_of_mem _ hy))
    rw [List.length_erase_of_mem hx] at this
    have hp : 0 < l2.length := List.length_pos_of_mem hx
    rw [List.length_cons]; omega
theorem ints_snoc {k : Int} {t : Tok} : ∀ {vs : List Value} {ns : List Int}, IntsAre vs ns → IntsAre (vs ++ [.int k t]) (ns ++ [k])
  | _, _, .nil => .cons k t .nil
  | _, _, .cons n u r => .cons n u (ints_snoc r)
theorem isInt_mem {P : Program} {w : World} {k : Int} : ∀ {l : List (Int × Value)} {ns : List Int}, IntsAre (l.map (·.2)) ns → ((∃ e ∈ l, (intKind P w).is k e.2 = true) ↔ k ∈ ns)
  | [], _, h => by cases h; simp
  | (hh, v) :: l, _, h => by
    cases h with
    | cons n t r =>
      have ih := isInt_mem (P := P) (w := w) (k := k) r
      rw [List.mem_cons, ← ih]
      constructor
      · rintro ⟨e, he, q⟩
        rcases List.mem_cons.mp he with rfl | he
        · obtain ⟨u, z⟩ := Value.isInt_shape (k := k) (v := Value.int n t) q
          injection z with z _
          exact .inl z.symm
        · exact .inr ⟨e, he, q⟩
      · rintro (rfl | ⟨e, he, q⟩)
        · exact ⟨_, List.mem_cons_self, by simp [intKind, Value.isInt]⟩
        · exact ⟨e, List.mem_cons_of_mem _ he, q⟩
theorem stored {h : Heap} {a : Addr} {ob : Obj} {es : Array (Int × Value)} {ep : Nat} {t : SetTable} (ho : h.get? a = some ob) (hd : ob.data = .set es ep t) (es2 : Array (Int × Value)) (t2 : SetTable) :
    (h.update a (Obj.putSet es2 t2)).get? a = some { ob with data := .set es2 (ep + 1) t2 } := by
  have z := Heap.get?_update_self (Obj.putSet es2 t2) ho (by rw [putSet_of es2 t2 hd]; rfl)
  rwa [putSet_of es2 t2 hd] at z
section
variable {P : Program} {w : World} {A : Around} {E : Value → Shared → Prop}
/-- the stores behind a new element -/
theorem add_tail {s : Shared} {g : Bool → Sem Unit} (hg : ∀ (b : Bool) (s1 : Shared) (Q1 : Unit → Shared → Prop), Q1 () s1 → wpAny (model P w) A (g b) Q1 E s1) {a : Addr} {ob : Obj} {es : Array (Int × Value)} {ep : Nat} {t : SetTable}
    (ho : s.heap.get? a = some ob) (hex : ob.ExactSet) (hd : ob.data = .set es ep t) {led : Bool} {ks : List Int} {es1 : Array (Int × Value)} {t2 : SetTable} {ns : List Int} (hel : ElemsOf (intKind P w) es1.toList)
    (hi : IntsAre (es1.toList.map (·.2)) ns) (nd : ns.Nodup) (hm : ∀ k, k ∈ ns ↔ k ∈ ks) (hb : es1.size < scanBound) (hf : t2.fits es1.size = true) (hT : Tab led t2) {wd : Bool} {R : Option Bool → Shared → Prop}
    (h : ∀ h', Heap.SameBut a s.heap h' → SetI P w h' a led ks → R (some true) { s with heap := h' }) :
    wpAny (model P w) A (storeSet a es1 t2 >>= fun _ => if (!wd && t2.tooFull) = true then (g (relayAll t2 es1 (SetTable.grown es1.size)).2.2 >>= fun _ =>
      storeSet a (relayAll t2 es1 (SetTable.grown es1.size)).1 (relayAll t2 es1 (SetTable.grown es1.size)).2.1 >>= fun _ => pure (some true)) else pure (some true)) R E s := by
  refine wpAny_bind (wpAny_storeSet_of ho hd ?_ (fits_of_scanBound hb))
  have g1 := stored ho hd es1 t2
  have sb := Heap.SameBut.update s.heap a (Obj.putSet es1 t2)
  have S1 : SetI P w (s.heap.update a (Obj.putSet es1 t2)) a led ks := ⟨_, es1, ep + 1, t2, ns, g1, hex, rfl, hel, hi, nd, hm, hb, hf, hT⟩
  by_cases hc : (!wd && t2.tooFull) = true
  · rw [if_pos hc]
    have pm := relayAll_perm t2 es1 (SetTable.grown es1.size)
    have ft := relayAll_fits t2 es1 (SetTable.grown es1.size)
    have T3 := hT.relay es1 (SetTable.grown es1.size)
    generalize relayAll t2 es1 (SetTable.grown es1.size) = q at pm ft T3 ⊢
    obtain ⟨es2, t3, gv⟩ := q
    dsimp only at pm ft T3 ⊢
    obtain ⟨ns2, i2, p2⟩ := ints_map_perm pm hi
    have sz : es2.size = es1.size := by rw [← Array.length_toList, pm.length_eq, Array.length_toList]
    have hb2 : es2.size < scanBound := by omega
    refine wpAny_bind (hg _ _ _ (wpAny_bind (wpAny_storeSet_of g1 rfl ?_ (fits_of_scanBound hb2))))
    have g2 := stored g1 rfl es2 t3
    refine wpAny_pure (h _ (sb.trans (Heap.SameBut.update _ a _)) ⟨_, es2, ep + 1 + 1, t3, ns2, g2, hex, rfl, hel.perm pm, i2, p2.symm.nodup nd, fun k => (p2.mem_iff).trans (hm k), hb2, ft, T3⟩)
  · rw [if_neg hc]
    exact wpAny_pure (h _ sb S1)
theorem set_add {s : Shared} {a : Addr} {led : Bool} {ks : List Int} {k : Int} {tk : Tok} {Q : Bool → Shared → Prop} (S : SetI P w s.heap a led ks) (hroom : ks.length + 1 < scanBound)
    (h : ∀ b h', Heap.SameBut a s.heap h' → SetI P w h' a led (ks ++ [k]) → Q b { s with heap := h' }) :
    wpAny (model P w) A (setAddHashed a (.int k tk) ((intKind P w).hash k)) Q E s := by
  obtain ⟨ob, es, ep, t, ns, ho, hex, hd, hel, hi, nd, hm, hb, hf, hT⟩ := S
  have hkey : (intKind P w).is k (.int k tk) = true := intKind_is _ _ _ _
  have hsc : (Value.int k tk).scannable = true := rfl
  have hsub : ns.length ≤ ks.length := nodup_sub ns ks nd fun x hx => (hm x).mp hx
  have hes : es.size = ns.length := by
    have := hi.length
    rw [List.length_map, Array.length_toList] at this; exact this
  unfold setAddHashed setAddHashedIn
  refine wpAny_holding (wpAny_bind (wpAny_setState_of ho hd hf ?_))
  dsimp only
  rw [byScan_of hsc hb hel]
  simp only [↓reduceIte]
  unfold setAddByScan
  refine wpAny_bind (wpAny_bind (wpAny_rule (wpAny_bind (wpAny_setScan_of hkey ho hd hf hel ?_))))
  cases hr : List.findIdx? (fun e => (intKind P w).is k e.2) es.toList with
  | some j =>
    dsimp only
    obtain ⟨hj, hpj, _⟩ := List.findIdx?_eq_some_iff_getElem.mp hr
    have hin : k ∈ ns := (isInt_mem (P := P) (w := w) hi).mp ⟨es.toList[j], List.getElem_mem hj, hpj⟩
    refine wpAny_pure (wpAny_pure ?_)
    have z := h false s.heap (Heap.SameBut.refl a s.heap) ⟨ob, es, ep, t, ns, ho, hex, hd, hel, hi, nd, fun x => ?_, hb, hf, hT⟩
    · exact z
    · rw [List.mem_append, List.mem_singleton, hm x]
      exact ⟨.inl, fun q => q.elim id fun e => by subst e; exact (hm _).mp hin⟩
  | none =>
    dsimp only
    have hnin : k ∉ ns := fun hk => by
      obtain ⟨e, he, q⟩ := (isInt_mem (P := P) (w := w) hi).mpr hk
      have := List.findIdx?_eq_none_iff.mp hr e he
      rw [q] at this; cases this
    have hgw : ∀ (b : Bool) (s1 : Shared) (Q1 : Unit → Shared → Prop), Q1 () s1 → wpAny (model P w) A (match b with | true => rule "set.scan.the-table-gave-way" | false => pure ()) Q1 E s1 := fun b s1 Q1 hq => by
      cases b
      · exact wpAny_pure hq
      · exact wpAny_rule hq
    have pm := layNew_perm t es ((intKind P w).hash k) (.int k tk)
    have ft := layNew_fits t es ((intKind P w).hash k) (.int k tk)
    have T1 := hT.layNew es ((intKind P w).hash k) (.int k tk)
    generalize layNew t es ((intKind P w).hash k) (.int k tk) = q at pm ft T1 ⊢
    obtain ⟨es1, t1, wd, gv⟩ := q
    dsimp only at pm ft T1 ⊢
    rw [Array.toList_push] at pm
    have hel1 : ElemsOf (intKind P w) es1.toList := (hel.push hkey hsc).perm pm
    obtain ⟨ns1, i1, p1⟩ := ints_map_perm pm (ns := ns ++ [k]) (by rw [List.map_append]; exact ints_snoc hi)
    have nd1 : ns1.Nodup := p1.symm.nodup (List.nodup_append.mpr ⟨nd, by simp, fun x hx y hy => by
      have : y = k := by simpa using hy
      subst this
      exact fun e => hnin (e ▸ hx)⟩)
    have hm1 : ∀ x, x ∈ ns1 ↔ x ∈ ks ++ [k] := fun x => by rw [p1.mem_iff, List.mem_append, List.mem_append, hm x]
    have sz1 : es1.size = es.size + 1 := by rw [← Array.length_toList, pm.length_eq, List.length_append, Array.length_toList]; rfl
    have hb1 : es1.size < scanBound := by omega
    refine wpAny_bind (hgw _ _ _ ?_)
    have fin : ∀ h', Heap.SameBut a s.heap h' → SetI P w h' a led (ks ++ [k]) → Q true { s with heap := h' } := fun h' sb S' => h true h' sb S'
    split
    · refine wpAny_bind ?_
      rw [hashByValue_scannable 8 hsc]
      refine wpAny_pure ?_
      have e1 : plainKind (Value.int k tk) = true := rfl
      rw [e1]
      refine add_tail (g := fun b => match b with | true => rule "set.scan.the-table-gave-way" | false => pure ()) hgw ho hex hd hel1 i1 nd1 hm1 hb1 ft T1 fun h' sb S' => ?_
      exact wpAny_pure (fin h' sb S')
    · refine wpAny_bind (wpAny_pure ?_)
      refine add_tail (g := fun b => match b with | true => rule "set.scan.the-table-gave-way" | false => pure ()) hgw ho hex hd hel1 i1 nd1 hm1 hb1 ft T1 fun h' sb S' => ?_
      exact wpAny_pure (fin h' sb S')
end
end L2

set_option Elab.async false
set_option linter.all false
set_option maxRecDepth 100000
set_option maxHeartbeats 4000000
namespace PySem
section
variable {prog : Program} {w : World} {A : Around} {E : Value → Shared → Prop} {s : Shared}
theorem own_set_new (v : Value) {Qn : Value → Shared → Prop}
    (h : Qn (.ref s.heap.objs.size) { s with heap := s.heap.push { cls := .type "set", dict := none, data := .set #[] 0 (.fresh 0 0 (!w.params.followText "set-order")) } }) :
    codeAny (model prog w) A (.call (.builtin "set.__new__") ⟨[.type "set", v], []⟩) (wants Qn E) s := by
  refine codeAny_of_tree ?_
  show wpAny _ A.in1 (checkBuiltinCall "set.__new__" ⟨[.type "set", v], []⟩ >>= fun _ => again (.builtin "set.__new__" ⟨[.type "set", v], []⟩)) _ _ s
  refine wpAny_bind (wpAny_of_eq (F.newCall_set_1 v) (wpAny_pure ⟨plainId_quiet F.plain_set_new _, codeAny_builtin F.entry_set_new ?_⟩))
  rw [Around.under_plainId F.plain_set_new _]
  unfold Builtin.«set.__new__» Builtin.Frozenset.newClass
  have hsub := sub_set_self
  obtain ⟨hp, g, d, tk, os⟩ := s
  dsimp only
  wp_walk
  refine wpAny_askSetting (wpAny_pure ?_)
  dsimp only
  simp only [newObj]
  refine wpAny_bind (wpAny_alloc (wpAny_pure ?_))
  exact wpAny_pure h
end
end PySem
namespace L2
open PySem PySem.Spec PyProof.Rows
section
variable {P : Program} {w : World} {A : Around} {R : Result → Shared → Prop} {I : Addr} {fp wr : List Addr} {G : Array GenState → Array GenState → Prop} {n : Nat} {Pv : Nat → Value → Prop} {St : Nat → Shared → Prop}
theorem set_fill (W : WalksS P w A.in1 I fp wr G n Pv St) (a : Addr) (hSf : a ∉ fp) (led : Bool) (val : Nat → Int) (hval : ∀ i v, Pv i v → ∃ t, v = .int (val i) t) (hb : n + 1 < scanBound) :
    ∀ (k i : Nat) (s : Shared), n - i = k → i ≤ n → St i s → SetI P w s.heap a led ((List.range i).map val) →
      (∀ s', Moved (a :: wr) G s s' → SetI P w s'.heap a led ((List.range n).map val) → R (.ok (.ret .none)) s') →
      codeAny (model P w) A (.builtin "set.update.loop" ⟨[.ref a, .ref I], []⟩) R s := by
  have hSw : a ∉ wr := fun h => hSf (W.sub _ h)
  have hsub : ∀ b ∈ wr, b ∈ a :: wr := fun b hb => List.mem_cons_of_mem _ hb
  intro k
  induction k with
  | zero =>
    intro i s hk hi hst hS hR
    obtain rfl : i = n := by omega
    refine codeAny_builtin F.entry_set_update_loop ?_
    rw [Around.under_plainId F.plain_set_update_loop _]
    show wpAny _ A.in1 (pyNext (.ref I) >>= _) _ _ s
    refine wpAny_bind (W.done s _ _ hst fun s' hm => ?_)
    show wpAny _ A.in1 (ret Value.none) _ _ s'
    exact wpAny_pure (hR s' (hm.mono hsub) (hS.keep fun o e => hm.heap a o hSw e))
  | succ k ih =>
    intro i s hk hi hst hS hR
    have hlt : i < n := by omega
    refine codeAny_builtin F.entry_set_update_loop ?_
    rw [Around.under_plainId F.plain_set_update_loop _]
    show wpAny _ A.in1 (pyNext (.ref I) >>= _) _ _ s
    refine wpAny_bind (W.item i s _ _ hlt hst fun v s1 hP hst1 hm => ?_)
    obtain ⟨t, rfl⟩ := hval i v hP
    have S1 : SetI P w s1.heap a led ((List.range i).map val) := hS.keep fun o e => hm.heap a o hSw e
    show wpAny _ A.in1 (holding [Value.int (val i) t] (setAdd a (.int (val i) t)) >>= _) _ _ s1
    refine wpAny_bind (wpAny_holding ?_)
    unfold setAdd
    refine wpAny_holding (wpAny_bind ((intKind P w).pyHash (k := val i) (intKind_is _ _ _ _) ?_))
    refine set_add (s := { s1 with toks := s1.toks + 1 }) S1 (by rw [List.length_map, List.length_range]; omega) fun b h2 sb S2 => ?_
    have S3 : SetI P w h2 a led ((List.range (i + 1)).map val) := by
      rw [List.range_succ, List.map_append]; exact S2
    refine wpAny_pure ⟨plainId_quiet F.plain_set_update_loop _, ih (i + 1) _ (by omega) hlt (W.frame _ s1 _ _ hst1 (Nat.le_succ _) fun c hc o e => ?_) S3 fun s2 hm2 S4 => ?_⟩
    · rw [sb.2 c (fun z : c = a => hSf (by rw [← z]; exact hc))]; exact e
    · refine hR s2 (Moved.trans W.gtrans ((hm.mono hsub).then_heap (Nat.le_succ _) fun c o hc e => ?_) hm2) S4
      rw [sb.2 c (fun z : c = a => hc (by rw [z]; exact List.mem_cons_self))]; exact e
end
theorem setI_new {P : Program} {w : World} {h : Heap} {a : Addr} {led : Bool} (e : h.get? a = some { cls := .type "set", dict := none, data := .set #[] 0 (.fresh 0 0 led) }) : SetI P w h a led [] :=
  ⟨_, #[], 0, .fresh 0 0 led, [], e, ⟨rfl, rfl, rfl⟩, rfl, fun e he => by simp at he, .nil, List.nodup_nil, fun k => Iff.rfl, by decide, rfl, ⟨rfl, rfl, List.Pairwise.nil⟩⟩
end L2
namespace PySem
open L2
section
variable {prog : Program} {w : World} {A : Around} {E : Value → Shared → Prop} {s : Shared}
/-- set(xs) of a list of ints -/
theorem own_set_list {l : Addr} {items : Array Value} {ns : List Int} {Q : Value → Shared → Prop} (hh : A.handled = none) (hl : s.heap.IsList l items) (hi : PyProof.Rows.IntsAre items.toList ns) (hb : items.size + 1 < scanBound)
    (h : ∀ (h' : Heap) (tk : Nat), SetI prog w h' s.heap.objs.size (!w.params.followText "set-order") ((List.range items.size).map fun i => ns.getD i 0) → (∀ b o, s.heap.get? b = some o → h'.get? b = some o) → Q (.ref s.heap.objs.size) { s with heap := h', toks := tk }) :
    wpAny (model prog w) A (call (.type "set") [.ref l]) Q E s := by
  obtain ⟨cc, tl, hmro⟩ := F.called_set.mro
  have hmade := F.called_set.made
  have hsub := F.called_set.sub
  refine wpAny_call (codeAny_of_tree ?_)
  show wpAny _ _ (callAny (.type "set") _) _ _ _
  refine wpAny_pure ⟨Code.quiet_builtin _ (by decide +kernel), codeAny_builtin F.entry_type_call ?_⟩
  rw [Around.under_plain (weight_type_call_type "set" [.ref l] []) rfl]
  have hnt := F.called_set.notType
  have hcc := F.called_set.canCreate
  have hct := F.typeCall_set_1 (.ref l)
  repeat (any_goals (first | assumption | wp_step))
  refine codeAny_mono (own_set_new (.ref l) (E := E) (Qn := fun ob s1 => ob = .ref s.heap.objs.size ∧ s1 = { s with heap := s.heap.push { cls := .type "set", dict := none, data := .set #[] 0 (.fresh 0 0 (!w.params.followText "set-order")) } }) ⟨rfl, rfl⟩) fun r s1 hr => ?_
  generalize hled : (!w.params.followText "set-order") = led at hr h
  cases r with
  | error e => exact hr
  | ok fl =>
    cases fl with
    | ret ob =>
      obtain ⟨rfl, rfl⟩ := hr
      have hS : (s.heap.push { cls := .type "set", dict := none, data := .set #[] 0 (.fresh 0 0 led) }).get? s.heap.objs.size = some { cls := .type "set", dict := none, data := .set #[] 0 (.fresh 0 0 led) } := Heap.get?_push_size _ rfl
      have hT : Shared.TypeIs { s with heap := s.heap.push { cls := .type "set", dict := none, data := .set #[] 0 (.fresh 0 0 led) } } (.ref s.heap.objs.size) "set" := ⟨_, hS, rfl⟩
      have hli := F.called_set.init.lookup
      have hbi := F.called_set.init.bind (.ref s.heap.objs.size)
      repeat (any_goals (first | assumption | wp_step))
      refine codeAny_mono (codeAny_call_builtin (R := wants (fun r s2 => r = .none ∧ ∃ h' tk, s2 = { s with heap := h', toks := tk } ∧ SetI prog w h' s.heap.objs.size led ((List.range items.size).map fun i => ns.getD i 0) ∧
          (∀ b o, s.heap.get? b = some o → h'.get? b = some o)) E) F.called_set.init.plain F.entry_set_init (check_set_init_1 hT ?_)) fun r2 s2 hr2 => ?_
      · obtain ⟨ol, hol, hcl, nl, hdl⟩ := hl
        obtain ⟨ocls, odict, odata, oslots⟩ := ol
        simp only at hcl hdl
        subst hcl; subst hdl
        have hol' : (s.heap.push { cls := .type "set", dict := none, data := .set #[] 0 (.fresh 0 0 led) }).get? l = some { cls := .type "list", dict := odict, data := .seq items nl, slots := oslots } := Heap.get?_push_of_some _ hol
        have hsls := F.sub_list_set
        have hslf := F.sub_list_frozenset
        have hnd : (Value.type "list" == Value.type "dict") = false := by decide
        have hl1 : (s.heap.push { cls := .type "set", dict := none, data := .set #[] 0 (.fresh 0 0 led) }).IsList l items := ⟨_, hol', rfl, nl, rfl⟩
        unfold Builtin.«set.__init__» noKeywords Builtin.Frozenset.updateFrom
        generalize hPI : pyIter = PI
        wp_walk
        subst hPI
        refine wpAny_pyIter_list hl1 ?_
        refine wpAny_bind (wpAny_runValue ?_)
        have hlS : l < s.heap.objs.size := Heap.lt_size hol
        have hh3 : A.in1.in1.in1.handled = none := by simp [hh]
        have hsz : (s.heap.push { cls := .type "set", dict := none, data := .set #[] 0 (.fresh 0 0 led) }).objs.size = s.heap.objs.size + 1 := Heap.size_push ..
        have hneI : l ≠ (s.heap.push { cls := .type "set", dict := none, data := .set #[] 0 (.fresh 0 0 led) }).objs.size := by rw [hsz]; exact Nat.ne_of_lt (Nat.lt_succ_of_lt hlS)
        have hSf : s.heap.objs.size ∉ [(s.heap.push { cls := .type "set", dict := none, data := .set #[] 0 (.fresh 0 0 led) }).objs.size, l] := by
          rw [hsz]
          intro z
          rcases List.mem_cons.mp z with z | z
          · exact absurd z (Nat.ne_of_lt (Nat.lt_succ_self _))
          · exact absurd (List.mem_singleton.mp z) (Nat.ne_of_gt hlS)
        have hval : ∀ (i : Nat) (v : Value), items[i]? = some v → ∃ t, v = .int ((fun i => ns.getD i 0) i) t := fun i v hv => PyProof.Rows.IntsAre.int_at hi i v (by rw [Array.getElem?_toList]; exact hv)
        refine set_fill ((Walks.list hh3 _ l hneI items).toS) s.heap.objs.size hSf led (fun i => ns.getD i 0) hval hb (items.size - 0) 0 _ (by omega) (Nat.zero_le _) ⟨⟨_, Heap.get?_push_size _ rfl, rfl, rfl⟩, hl1.push _⟩ ?hS0 ?hR
        case hS0 => exact setI_new (Heap.get?_push_of_some _ hS)
        case hR =>
          intro s' hm hS'
          obtain ⟨h', g', d', tk', os'⟩ := s'
          have eg : g' = s.gens := hm.gens
          have ed : d' = s.drawn := hm.drawn
          have eo : os' = s.os := hm.os
          subst eg; subst ed; subst eo
          show wpAny _ _ _ _ _ _
          refine wpAny_pure ?_
          show wpAny _ _ (ret Value.none) _ _ _
          refine wpAny_pure ⟨rfl, h', tk', rfl, hS', fun b o e => hm.heap b o (fun z => ?_) (Heap.get?_push_of_some _ (Heap.get?_push_of_some _ e))⟩
          have hlt := Heap.lt_size e
          rcases List.mem_cons.mp z with z | z
          · exact absurd z (Nat.ne_of_lt hlt)
          · have z' := List.mem_singleton.mp z
            rw [hsz] at z'
            exact absurd z' (Nat.ne_of_lt (Nat.lt_succ_of_lt hlt))
      · cases r2 with
        | error e => exact hr2
        | ok fl2 =>
          cases fl2 with
          | ret r =>
            obtain ⟨rfl, h', tk, rfl, hS', hk'⟩ := hr2
            repeat (any_goals (first | assumption | wp_step))
            exact h _ _ hS' hk'
          | _ => exact hr2.elim
    | _ => exact hr.elim
end
end PySem

set_option Elab.async false
set_option linter.all false
set_option maxRecDepth 100000
set_option maxHeartbeats 4000000
namespace PySem.F
theorem si_next : Slot "set_iterator" "__next__" "set_iterator.__next__" :=
  .of (owner := "set_iterator") (n := "__next__") (by rw [typeLookup_type, builtinLookup_eq_fast]; kernel_rfl) (by decide +kernel) (by decide +kernel) (by decide +kernel) (by first | exact .inl (by decide +kernel) | exact .inr (by decide +kernel)) (by rw [isSubtype_type]; kernel_rfl)
theorem si_next_e : entryFor table "set_iterator.__next__" = some Builtin.«set_iterator.__next__» := entryFor_of_tree (by kernel_rfl)
theorem si_owner : Manifest.owners.lookup (String.ofList ['r', 'o', 't', 'a', 'r', 'e', 't', 'i', '_', 't', 'e', 's'].reverse) = some Manifest.sig_set_iterator := by kernel_rfl
theorem si_next_a (a : Value) : argsOk "set_iterator.__next__" ⟨[a], []⟩ := by
  unfold argsOk; rw [signature?_of (id := "set_iterator.__next__") (n := ['_', '_', 't', 'x', 'e', 'n', '_', '_']) (o := ['r', 'o', 't', 'a', 'r', 'e', 't', 'i', '_', 't', 'e', 's']) (by kernel_rfl) si_owner]; kernel_rfl
theorem si_iter : Slot "set_iterator" "__iter__" "set_iterator.__iter__" :=
  .of (owner := "set_iterator") (n := "__iter__") (by rw [typeLookup_type, builtinLookup_eq_fast]; kernel_rfl) (by decide +kernel) (by decide +kernel) (by decide +kernel) (by first | exact .inl (by decide +kernel) | exact .inr (by decide +kernel)) (by rw [isSubtype_type]; kernel_rfl)
theorem si_iter_e : entryFor table "set_iterator.__iter__" = some Builtin.«dict_keyiterator.__iter__» := entryFor_alias (id' := "dict_keyiterator.__iter__") (by kernel_rfl) rfl (by decide +kernel) (by kernel_rfl)
theorem si_iter_a (a : Value) : argsOk "set_iterator.__iter__" ⟨[a], []⟩ := by
  unfold argsOk; rw [signature?_of (id := "set_iterator.__iter__") (n := ['_', '_', 'r', 'e', 't', 'i', '_', '_']) (o := ['r', 'o', 't', 'a', 'r', 'e', 't', 'i', '_', 't', 'e', 's']) (by kernel_rfl) si_owner]; kernel_rfl
theorem set_iter_e : entryFor table "set.__iter__" = some Builtin.«frozenset.__iter__» := entryFor_alias (id' := "frozenset.__iter__") (by kernel_rfl) rfl (by decide +kernel) (by kernel_rfl)
end PySem.F
namespace L2
open PySem PySem.Spec PyProof.Rows
section
variable {P : Program} {w : World} {A : Around} {E : Value → Shared → Prop} {s : Shared}
theorem own_choose {M : Model} {src : Source} {n : Nat} {Q : Nat → Shared → Prop} (hn : n ≠ 0) (h : ∀ i, i < n → Q i { s with drawn := s.drawn.bump src }) : wpAny M A (choose src n) Q E s :=
  fun _ _ _ => ⟨hn, h _ (Nat.mod_lt _ (Nat.pos_of_ne_zero hn))⟩
theorem erase_perm {α : Type} : ∀ (l : List α) (i : Nat) (h : i < l.length), (l[i] :: l.eraseIdx i).Perm l
  | x :: l, 0, _ => .refl _
  | x :: l, i + 1, h => by
    have h' : i < l.length := by simpa using h
    have := erase_perm l i h'
    show ((x :: l)[i + 1] :: x :: l.eraseIdx i).Perm (x :: l)
    exact (List.Perm.swap x _ _).trans (this.cons x)
/-- drawing an order -/
theorem own_order {α : Type} {M : Model} : ∀ (n : Nat) (xs : List α) (s : Shared) (Q : List α → Shared → Prop), xs.length = n → (∀ ys d, ys.Perm xs → Q ys { s with drawn := d }) → wpAny M A (drawOrder n xs) Q E s
  | 0, xs, s, Q, hl, h => by
    have : xs = [] := List.length_eq_zero_iff.mp hl
    subst this
    exact wpAny_pure (h [] s.drawn (.refl _))
  | n + 1, [], s, Q, hl, h => by simp at hl
  | n + 1, x :: xs, s, Q, hl, h => by
    rw [drawOrder]
    · refine wpAny_bind (own_choose (by simp) fun i hi => ?_)
      have e : (x :: xs)[i]? = some ((x :: xs)[i]) := by simp [hi]
      rw [e]
      dsimp only
      refine wpAny_bind (own_order n _ _ _ ?_ fun ys d hp => ?_)
      · rw [List.length_eraseIdx_of_lt hi]; simp at hl ⊢; exact hl
      · refine wpAny_pure (h _ d ?_)
        refine (hp.cons _).trans ?_
        exact erase_perm _ i hi
    · simp
structure SAt (h : Heap) (a : Addr) (es : Array (Int × Value)) (ep : Nat) (t : SetTable) : Prop where
  ex : ∃ o, h.get? a = some o ∧ o.ExactSet ∧ o.data = .set es ep t
  fits : t.fits es.size = true
theorem next_places {a : Addr} {es : Array (Int × Value)} {ep : Nat} {t : SetTable} {slot given : Nat} {Q : Option (Value × Nat) → Shared → Prop} (S : SAt s.heap a es ep t) (hb : w.params.followText "set-order" = false) (hl : t.led = true) (hp : t.plain = true ∨ es.size ≤ 1)
    (h : Q (match es[SetTable.below t.place slot]?, t.place[SetTable.below t.place slot]? with | some (_, x), some j => some (x, j + 1) | _, _ => none) s) : wpAny (model P w) A (setNext a slot given ep) Q E s := by
  obtain ⟨o, ho, hex, hd⟩ := S.ex
  unfold setNext
  refine wpAny_bind (wpAny_setState_of ho hd S.fits ?_)
  dsimp only
  unfold setsByText
  refine wpAny_bind (wpAny_bind (wpAny_askSetting (wpAny_pure ?_)))
  show wpAny _ _ (if w.params.followText "set-order" = true then _ else _) _ _ _
  rw [hb]
  simp only [Bool.false_eq_true, if_false]
  have hdr : (!t.plain && decide (es.size > 1)) = false := by
    rcases hp with hp | hp
    · rw [hp]; rfl
    · rw [decide_eq_false (by omega), Bool.and_false]
  refine wpAny_ite_split (fun hc => ?_) (fun _ => ?_)
  · have hc' : (!t.plain && decide (es.size > 1)) = true := hc
    rw [hdr] at hc'; cases hc'
  · show wpAny _ _ ((if (!t.led && !es.isEmpty) = true then unsupported "set:maker-not-led" else pure ()) >>= fun _ => pure _) Q E s
    rw [hl]
    simp only [Bool.not_true, Bool.false_and, Bool.false_eq_true, if_false]
    exact wpAny_bind (wpAny_pure (wpAny_pure h))
theorem next_text {a : Addr} {es : Array (Int × Value)} {ep : Nat} {t : SetTable} {slot given : Nat} {Q : Option (Value × Nat) → Shared → Prop} (S : SAt s.heap a es ep t) (hb : w.params.followText "set-order" = true)
    (h : Q (((pickOrder (w.params.setOrder a ep) es)[given]?).map fun e => (e.2, slot)) s) : wpAny (model P w) A (setNext a slot given ep) Q E s := by
  obtain ⟨o, ho, hex, hd⟩ := S.ex
  unfold setNext
  refine wpAny_bind (wpAny_setState_of ho hd S.fits ?_)
  dsimp only
  unfold setsByText
  refine wpAny_bind (wpAny_bind (wpAny_askSetting (wpAny_pure ?_)))
  show wpAny _ _ (if w.params.followText "set-order" = true then _ else _) _ _ _
  rw [if_pos hb]
  refine wpAny_ite_split (fun hc => by simp at hc) (fun _ => ?_)
  unfold setWalk
  refine wpAny_bind (wpAny_bind (wpAny_setState_of ho hd S.fits ?_))
  dsimp only
  unfold setsByText
  refine wpAny_bind (wpAny_bind (wpAny_askSetting (wpAny_pure ?_)))
  show wpAny _ _ (if w.params.followText "set-order" = true then _ else _) _ _ _
  rw [if_pos hb]
  refine wpAny_bind (wpAny_askSetting (wpAny_pure ?_))
  exact wpAny_pure h
theorem next_drawn {a : Addr} {es : Array (Int × Value)} {ep : Nat} {t : SetTable} {place : Nat} {e : Int × Value} {Q : Value → Shared → Prop} (S : SAt s.heap a es ep t) (he : es[place]? = some e) (h : Q e.2 s) : wpAny (model P w) A (setNextDrawn a place ep) Q E s := by
  obtain ⟨o, ho, hex, hd⟩ := S.ex
  unfold setNextDrawn
  refine wpAny_bind (wpAny_setState_of ho hd S.fits ?_)
  dsimp only
  refine wpAny_ite_split (fun hc => by simp at hc) (fun _ => ?_)
  rw [he]
  exact wpAny_pure h
theorem pick_perm {α : Type} (f : Nat → Nat) : ∀ (fuel k : Nat) (left : List α) (out : Array α), left.length = fuel → (pickOrder.go f fuel k left out).toList.Perm (out.toList ++ left)
  | 0, k, left, out, hl => by
    have : left = [] := List.length_eq_zero_iff.mp hl
    subst this
    rw [pickOrder.go]; simp
  | fuel + 1, k, left, out, hl => by
    rw [pickOrder.go]
    have hi : f k % left.length < left.length := Nat.mod_lt _ (by omega)
    have e : left[f k % left.length]? = some (left[f k % left.length]) := by simp [hi]
    rw [e]
    dsimp only
    refine (pick_perm f fuel (k + 1) _ _ (by rw [List.length_eraseIdx_of_lt hi]; omega)).trans ?_
    rw [Array.toList_push, List.append_assoc]
    exact List.Perm.append_left _ (by simpa using erase_perm left _ hi)
theorem pick_all {α : Type} (f : Nat → Nat) (es : Array α) : (pickOrder f es).toList.Perm es.toList := by
  have := pick_perm f es.size 0 es.toList #[] (by simp)
  simpa [pickOrder] using this
end
end L2

set_option Elab.async false
set_option linter.all false
set_option maxRecDepth 100000
set_option maxHeartbeats 4000000
namespace L2
open PySem PySem.Spec PyProof.Rows
/-- the iterator's record -/
def siObj (first : Value) (S : Addr) (i n ep : Nat) : Obj := { cls := .type "set_iterator", data := .fields #[first, .int i 0, .ref S, .int n 0, .int ep 0] }
section
variable {P : Program} {w : World} {A : Around} {E : Value → Shared → Prop} {s : Shared}
theorem si_item {I S : Addr} {slot i n ep nx : Nat} {x : Value} {es : Array (Int × Value)} {t : SetTable} {Q : Option Value → Shared → Prop} (hI : s.heap.get? I = some (siObj (.int slot 0) S i n ep)) (hS : SAt s.heap S es ep t) (hn : es.size = n)
    (hN : ∀ (A' : Around) (E' : Value → Shared → Prop) (Q' : Option (Value × Nat) → Shared → Prop), Q' (some (x, nx)) s → wpAny (model P w) A' (setNext S slot i ep) Q' E' s)
    (h : ∀ h', h'.get? I = some (siObj (.int nx 0) S (i + 1) n ep) → Heap.SameBut I s.heap h' → Q (some x) { s with heap := h' }) : wpAny (model P w) A (pyNext (.ref I)) Q E s := by
  have hT : s.TypeIs (.ref I) "set_iterator" := ⟨_, hI, rfl⟩
  obtain ⟨o, ho, hex, hd⟩ := hS.ex
  unfold pyNext
  refine wpAny_bind (wpAny_attempt (wpAny_callSpecial?_slot (name := Str.ofString "__next__") hT F.si_next (wpAny_call_entry F.si_next hT F.si_next_e ?_ (F.si_next_a _))))
  unfold Builtin.«set_iterator.__next__»
  refine wpAny_bind (wpAny_pure ?_)
  refine wpAny_bind (wpAny_fieldsOf hI rfl ?_)
  show wpAny _ _ (setEntries S >>= _) _ _ _
  refine wpAny_bind (wpAny_setEntries_of ho hd hS.fits ?_)
  refine wpAny_ite_split (fun hc => by rw [hn] at hc; simp at hc) (fun _ => ?_)
  show wpAny _ _ (setNext S slot i ep >>= _) _ _ _
  refine wpAny_bind (hN _ _ _ ?_)
  show wpAny _ _ (setField (.ref I) 0 (rawInt nx) >>= _) _ _ _
  refine wpAny_bind (wpAny_setField_rec hI (by simp) fun h1 g1 sb1 => ?_)
  refine wpAny_bind (wpAny_setField_rec (s := { s with heap := h1 }) g1 (by simp) fun h2 g2 sb2 => ?_)
  exact wpAny_pure ⟨_, rfl, wpAny_pure (h h2 (by simpa [siObj, rawInt] using g2) (sb1.trans sb2))⟩
theorem si_end {I S : Addr} {slot i n ep : Nat} {es : Array (Int × Value)} {t : SetTable} {Q : Option Value → Shared → Prop} (hh : A.handled = none) (hI : s.heap.get? I = some (siObj (.int slot 0) S i n ep)) (hS : SAt s.heap S es ep t) (hn : es.size = n)
    (hN : ∀ (A' : Around) (E' : Value → Shared → Prop) (Q' : Option (Value × Nat) → Shared → Prop), Q' none s → wpAny (model P w) A' (setNext S slot i ep) Q' E' s)
    (h : ∀ h', Heap.ExtBut I s.heap h' → Q none { s with heap := h' }) : wpAny (model P w) A (pyNext (.ref I)) Q E s := by
  have hT : s.TypeIs (.ref I) "set_iterator" := ⟨_, hI, rfl⟩
  obtain ⟨o, ho, hex, hd⟩ := hS.ex
  unfold pyNext
  refine wpAny_bind (wpAny_attempt (wpAny_callSpecial?_slot (name := Str.ofString "__next__") hT F.si_next (wpAny_call_entry F.si_next hT F.si_next_e ?_ (F.si_next_a _))))
  unfold Builtin.«set_iterator.__next__»
  refine wpAny_bind (wpAny_pure ?_)
  refine wpAny_bind (wpAny_fieldsOf hI rfl ?_)
  show wpAny _ _ (setEntries S >>= _) _ _ _
  refine wpAny_bind (wpAny_setEntries_of ho hd hS.fits ?_)
  refine wpAny_ite_split (fun hc => by rw [hn] at hc; simp at hc) (fun _ => ?_)
  show wpAny _ _ (setNext S slot i ep >>= _) _ _ _
  refine wpAny_bind (hN _ _ _ ?_)
  show wpAny _ _ (setField (.ref I) 2 .none >>= _) _ _ _
  refine wpAny_bind (wpAny_setField_rec hI (by simp) fun h1 g1 sb1 => ?_)
  show wpAny _ _ (newExc (.type "StopIteration") [] >>= _) _ _ _
  refine wpAny_bind ?_
  simp only [newExc, newTuple]
  refine wpAny_bind (wpAny_newObj_type ?_ (by size_fits))
  refine wpAny_bind (m := firstArgMember _ _) (wpAny_of_eq (a := Value.none) (by first | rfl | (simp only [firstArgMember]; rfl)) ?_)
  refine wpAny_newObj_type ?_ (by size_fits)
  simp only [raiseNew]
  refine wpAny_bind (wpAny_handled ?_)
  rw [show A.in1.handled = none from hh]
  refine wpAny_bind (wpAny_pure (wpAny_throw ?_))
  refine wpAny_bind (wpAny_isInstance (T := "StopIteration") (b := true) ⟨_, Heap.get?_push_size _ rfl, rfl⟩ isSubtype_stop ?_)
  exact wpAny_pure (h _ ((sb1.extBut.push _).push _))
theorem sd_item {I S T : Addr} {i n ep : Nat} {e : Int × Value} {pl : List Nat} {p : Nat} {es : Array (Int × Value)} {t : SetTable} {Q : Option Value → Shared → Prop} (hI : s.heap.get? I = some (siObj (.ref T) S i n ep)) (hS : SAt s.heap S es ep t) (hn : es.size = n)
    (hT' : s.heap.get? T = some { cls := .type "tuple", data := .seq (pl.map fun (k : Nat) => rawInt k).toArray }) (hp : pl[i]? = some p) (he : es[p]? = some e)
    (h : ∀ h', h'.get? I = some (siObj (.ref T) S (i + 1) n ep) → Heap.SameBut I s.heap h' → Q (some e.2) { s with heap := h' }) : wpAny (model P w) A (pyNext (.ref I)) Q E s := by
  have hT : s.TypeIs (.ref I) "set_iterator" := ⟨_, hI, rfl⟩
  obtain ⟨o, ho, hex, hd⟩ := hS.ex
  unfold pyNext
  refine wpAny_bind (wpAny_attempt (wpAny_callSpecial?_slot (name := Str.ofString "__next__") hT F.si_next (wpAny_call_entry F.si_next hT F.si_next_e ?_ (F.si_next_a _))))
  unfold Builtin.«set_iterator.__next__»
  refine wpAny_bind (wpAny_pure ?_)
  refine wpAny_bind (wpAny_fieldsOf hI rfl ?_)
  show wpAny _ _ (setEntries S >>= _) _ _ _
  refine wpAny_bind (wpAny_setEntries_of ho hd hS.fits ?_)
  refine wpAny_ite_split (fun hc => by rw [hn] at hc; simp at hc) (fun _ => ?_)
  dsimp only
  refine wpAny_bind ?_
  show wpAny _ _ (load T >>= _) _ _ _
  refine wpAny_bind (wpAny_load hT' (wpAny_pure ?_))
  dsimp only
  rw [show ((List.map (fun (k : Nat) => rawInt k) pl).toArray)[((i : Nat) : Int).toNat]? = some (rawInt p) by rw [Int.toNat_natCast]; simp [hp]]
  show wpAny _ _ (setNextDrawn S ((p : Nat) : Int).toNat ((ep : Nat) : Int).toNat >>= _) _ _ _
  rw [Int.toNat_natCast, Int.toNat_natCast]
  refine wpAny_bind (next_drawn hS he ?_)
  refine wpAny_bind (wpAny_setField_rec hI (by simp) fun h2 g2 sb2 => ?_)
  exact wpAny_pure ⟨_, rfl, wpAny_pure (h h2 (by simpa [siObj, rawInt] using g2) sb2)⟩
theorem sd_end {I S T : Addr} {i n ep : Nat} {pl : List Nat} {es : Array (Int × Value)} {t : SetTable} {Q : Option Value → Shared → Prop} (hh : A.handled = none) (hI : s.heap.get? I = some (siObj (.ref T) S i n ep)) (hS : SAt s.heap S es ep t) (hn : es.size = n)
    (hT' : s.heap.get? T = some { cls := .type "tuple", data := .seq (pl.map fun (k : Nat) => rawInt k).toArray }) (hp : pl[i]? = none)
    (h : ∀ h', Heap.ExtBut I s.heap h' → Q none { s with heap := h' }) : wpAny (model P w) A (pyNext (.ref I)) Q E s := by
  have hT : s.TypeIs (.ref I) "set_iterator" := ⟨_, hI, rfl⟩
  obtain ⟨o, ho, hex, hd⟩ := hS.ex
  unfold pyNext
  refine wpAny_bind (wpAny_attempt (wpAny_callSpecial?_slot (name := Str.ofString "__next__") hT F.si_next (wpAny_call_entry F.si_next hT F.si_next_e ?_ (F.si_next_a _))))
  unfold Builtin.«set_iterator.__next__»
  refine wpAny_bind (wpAny_pure ?_)
  refine wpAny_bind (wpAny_fieldsOf hI rfl ?_)
  show wpAny _ _ (setEntries S >>= _) _ _ _
  refine wpAny_bind (wpAny_setEntries_of ho hd hS.fits ?_)
  refine wpAny_ite_split (fun hc => by rw [hn] at hc; simp at hc) (fun _ => ?_)
  dsimp only
  refine wpAny_bind ?_
  show wpAny _ _ (load T >>= _) _ _ _
  refine wpAny_bind (wpAny_load hT' (wpAny_pure ?_))
  dsimp only
  rw [show ((List.map (fun (k : Nat) => rawInt k) pl).toArray)[((i : Nat) : Int).toNat]? = none by rw [Int.toNat_natCast]; simpa using hp]
  dsimp only
  refine wpAny_bind (wpAny_setField_rec hI (by simp) fun h0 g0 sb0 => ?_)
  refine wpAny_bind (wpAny_setField_rec (s := { s with heap := h0 }) g0 (by simp) fun h1 g1 sb1 => ?_)
  show wpAny _ _ (newExc (.type "StopIteration") [] >>= _) _ _ _
  refine wpAny_bind ?_
  simp only [newExc, newTuple]
  refine wpAny_bind (wpAny_newObj_type ?_ (by size_fits))
  refine wpAny_bind (m := firstArgMember _ _) (wpAny_of_eq (a := Value.none) (by first | rfl | (simp only [firstArgMember]; rfl)) ?_)
  refine wpAny_newObj_type ?_ (by size_fits)
  simp only [raiseNew]
  refine wpAny_bind (wpAny_handled ?_)
  rw [show A.in1.handled = none from hh]
  refine wpAny_bind (wpAny_pure (wpAny_throw ?_))
  refine wpAny_bind (wpAny_isInstance (T := "StopIteration") (b := true) ⟨_, Heap.get?_push_size _ rfl, rfl⟩ isSubtype_stop ?_)
  exact wpAny_pure (h _ (((sb0.trans sb1).extBut.push _).push _))
theorem si_self {I S : Addr} {first : Value} {i n ep : Nat} {Q : Value → Shared → Prop} (hI : s.heap.get? I = some (siObj first S i n ep)) (h : Q (.ref I) s) : wpAny (model P w) A (pyIter (.ref I)) Q E s := by
  have hT : s.TypeIs (.ref I) "set_iterator" := ⟨_, hI, rfl⟩
  refine wpAny_pyIter_slot hT F.si_iter (wpAny_call_entry F.si_iter hT F.si_iter_e ?_ (F.si_iter_a _))
  show wpAny _ _ (ret (.ref I)) _ _ s
  exact wpAny_pure ⟨_, rfl, "set_iterator", _, hT, F.si_next.lookup, h⟩
theorem SAt.keep {h h' : Heap} {a : Addr} {es : Array (Int × Value)} {ep : Nat} {t : SetTable} (x : SAt h a es ep t) (k : ∀ o, h.get? a = some o → h'.get? a = some o) : SAt h' a es ep t := by
  obtain ⟨o, e, r⟩ := x.ex
  exact ⟨⟨o, k o e, r⟩, x.fits⟩
theorem getD_at {l : List Nat} {i : Nat} (h : i < l.length) : l[i]? = some (l.getD i 0) := by simp [List.getD, h]
/-- the slots in the order of the table -/
def slotOf (t : SetTable) : Nat → Nat
  | 0 => 0
  | i + 1 => t.place.toList.getD i 0 + 1
theorem walks_places (hh : A.handled = none) (hb : w.params.followText "set-order" = false) {I S : Addr} (hne : S ≠ I) {es : Array (Int × Value)} {ep : Nat} {t : SetTable} (T : Tab true t) (hf : t.fits es.size = true) (hp : t.plain = true ∨ es.size ≤ 1) :
    Walks P w A I [I, S] [I] es.toList.length (fun i v => (es.toList[i]?).map (·.2) = some v) (fun i h => h.get? I = some (siObj (.int (slotOf t i) 0) S i es.size ep) ∧ SAt h S es ep t ∧ i ≤ es.size) where
  sub := fun b hb => by simp at hb; simp [hb]
  frame := fun i h h' st hk => ⟨hk I (by simp) _ st.1, st.2.1.keep fun o e => hk S (by simp) o e, st.2.2⟩
  item := fun i s Q E hi st hQ => by
    rw [Array.length_toList] at hi
    have hsz : t.place.size = es.size := by unfold SetTable.fits at hf; simp at hf; exact hf.1
    have hpl : t.place.toList[i]? = some (t.place.toList.getD i 0) := by
      have : i < t.place.toList.length := by rw [Array.length_toList]; omega
      exact getD_at this
    have hbl : SetTable.below t.place (slotOf t i) = i := by
      cases i with
      | zero => exact below_zero T.ris
      | succ j =>
        refine below_at T.ris ?_
        have : j < t.place.toList.length := by rw [Array.length_toList]; omega
        exact getD_at this
    have hes : es[i]? = some (es[i]) := by simp [hi]
    refine si_item (x := (es[i]).2) (nx := slotOf t (i + 1)) st.1 st.2.1 rfl (fun A' E' Q' q => next_places st.2.1 hb T.led hp ?_) fun h' g sb => ?_
    · rw [hbl, hes, ← Array.getElem?_toList, hpl]; exact q
    · refine hQ _ h' s.toks ?_ ⟨g, st.2.1.keep fun o e => sb.extBut S o hne e, hi⟩ fun b o hb e => sb.extBut b o (fun z => hb (by simp [z])) e
      rw [Array.getElem?_toList, hes]; rfl
  done := fun s Q E st hQ => by
    rw [Array.length_toList] at st
    have hsz : t.place.size = es.size := by unfold SetTable.fits at hf; simp at hf; exact hf.1
    have hbl : SetTable.below t.place (slotOf t es.size) = es.size := by
      cases e : es.size with
      | zero => exact below_zero T.ris
      | succ j =>
        refine below_at T.ris ?_
        have : j < t.place.toList.length := by rw [Array.length_toList]; omega
        exact getD_at this
    refine si_end hh st.1 st.2.1 rfl (fun A' E' Q' q => next_places st.2.1 hb T.led hp ?_) fun h' eb => hQ h' s.toks fun b o hb e => eb b o (fun z => hb (by simp [z])) e
    rw [hbl, show es[es.size]? = none by simp]; exact q
  self := fun _ _ _ _ st hQ => si_self st.1 hQ
theorem walks_text (hh : A.handled = none) (hb : w.params.followText "set-order" = true) {I S : Addr} (hne : S ≠ I) {es : Array (Int × Value)} {ep : Nat} {t : SetTable} {slot : Nat} :
    Walks P w A I [I, S] [I] (pickOrder (w.params.setOrder S ep) es).toList.length (fun i v => ((pickOrder (w.params.setOrder S ep) es).toList[i]?).map (·.2) = some v) (fun i h => h.get? I = some (siObj (.int slot 0) S i es.size ep) ∧ SAt h S es ep t) where
  sub := fun b hb => by simp at hb; simp [hb]
  frame := fun i h h' st hk => ⟨hk I (by simp) _ st.1, st.2.keep fun o e => hk S (by simp) o e⟩
  item := fun i s Q E hi st hQ => by
    have hes : (pickOrder (w.params.setOrder S ep) es).toList[i]? = some ((pickOrder (w.params.setOrder S ep) es).toList[i]) := by simp
    refine si_item (x := ((pickOrder (w.params.setOrder S ep) es).toList[i]).2) (nx := slot) st.1 st.2 rfl (fun A' E' Q' q => next_text st.2 hb ?_) fun h' g sb => ?_
    · rw [← Array.getElem?_toList, hes]; exact q
    · refine hQ _ h' s.toks (by rw [hes]; rfl) ⟨g, st.2.keep fun o e => sb.extBut S o hne e⟩ fun b o hb e => sb.extBut b o (fun z => hb (by simp [z])) e
  done := fun s Q E st hQ => by
    refine si_end hh st.1 st.2 rfl (fun A' E' Q' q => next_text st.2 hb ?_) fun h' eb => hQ h' s.toks fun b o hb e => eb b o (fun z => hb (by simp [z])) e
    rw [← Array.getElem?_toList, List.getElem?_eq_none (Nat.le_refl _)]; exact q
  self := fun _ _ _ _ st hQ => si_self st.1 hQ
theorem walks_drawn (hh : A.handled = none) {I S T : Addr} (hne : S ≠ I) (hnt : T ≠ I) {es : Array (Int × Value)} {ep : Nat} {t : SetTable} {pl : List Nat} (hp : pl.Perm (List.range es.size)) :
    Walks P w A I [I, S, T] [I] pl.length (fun i v => ∃ p e, pl[i]? = some p ∧ es.toList[p]? = some e ∧ v = e.2) (fun i h => h.get? I = some (siObj (.ref T) S i es.size ep) ∧ SAt h S es ep t ∧ h.get? T = some { cls := .type "tuple", data := .seq (pl.map fun (k : Nat) => rawInt k).toArray }) where
  sub := fun b hb => by simp at hb; simp [hb]
  frame := fun i h h' st hk => ⟨hk I (by simp) _ st.1, st.2.1.keep fun o e => hk S (by simp) o e, hk T (by simp) _ st.2.2⟩
  item := fun i s Q E hi st hQ => by
    have hpl : pl[i]? = some pl[i] := by simp [hi]
    have hlt : pl[i] < es.size := List.mem_range.mp (hp.mem_iff.mp (List.getElem_mem hi))
    have hes : es[pl[i]]? = some (es[pl[i]]) := by simp [hlt]
    refine sd_item st.1 st.2.1 rfl st.2.2 hpl hes fun h' g sb => ?_
    exact hQ _ h' s.toks ⟨_, _, hpl, by rw [Array.getElem?_toList]; exact hes, rfl⟩ ⟨g, st.2.1.keep fun o e => sb.extBut S o hne e, sb.extBut T _ hnt st.2.2⟩ fun b o hb e => sb.extBut b o (fun z => hb (by simp [z])) e
  done := fun s Q E st hQ => sd_end hh st.1 st.2.1 rfl st.2.2 (by simp) fun h' eb => hQ h' s.toks fun b o hb e => eb b o (fun z => hb (by simp [z])) e
  self := fun _ _ _ _ st hQ => si_self st.1 hQ
end
end L2

set_option Elab.async false
set_option linter.all false
set_option maxRecDepth 100000
set_option maxHeartbeats 4000000
namespace L2
open PySem PySem.Spec PyProof.Rows
section
variable {P : Program} {w : World} {A : Around} {E : Value → Shared → Prop} {s : Shared}
theorem hint_set {S : Addr} {Q : Bool → Shared → Prop} (hT : s.TypeIs (.ref S) "set") (h : Q false s) : wpAny (model P w) A (Builtin.List.listLengthHint (.ref S)) Q E s := by
  unfold Builtin.List.listLengthHint
  refine wpAny_bind (wpAny_specialOf hT PySem.F.slot_set_len.lookup ?_)
  generalize hid : ("set.__len__" : String) = id0
  wp_delta
  rw [show splitId id0 = some ("set", "__len__") from by subst hid; decide +kernel]
  subst hid
  refine wpAny_bind (wpAny_isInstance (T := "set") (b := true) hT (by rw [isSubtype_type]; kernel_rfl) ?_)
  refine wpAny_ite_split (fun hab => absurd hab (by decide)) (fun _ => ?_)
  refine wpAny_ite_split (fun _ => ?_) (fun hab => absurd (by decide +kernel) hab)
  exact wpAny_bind (wpAny_typeOf hT (wpAny_pure h))
theorem map_getD {α : Type} (d : α) (L : List α) : (List.range L.length).map (fun p => L.getD p d) = L := by
  refine List.ext_getElem? fun i => ?_
  by_cases h : i < L.length
  · simp [List.getD, h]
  · rw [List.getElem?_eq_none (by simp; omega), List.getElem?_eq_none (by omega)]
/-- the items that a walk of the set hands out -/
def Outs (n : Nat) (Pv : Nat → Value → Prop) (ks : List Int) : Prop := ∀ vs : List Value, vs.length = n → (∀ (j : Nat) v, vs[j]? = some v → Pv j v) → ∃ ns, IntsAre vs ns ∧ ns.Nodup ∧ ∀ k, k ∈ ns ↔ k ∈ ks
theorem outs_of {es ord : List (Int × Value)} {ns ks : List Int} (hi : IntsAre (es.map (·.2)) ns) (nd : ns.Nodup) (hm : ∀ k, k ∈ ns ↔ k ∈ ks) (hp : ord.Perm es) : Outs ord.length (fun i v => (ord[i]?).map (·.2) = some v) ks := fun vs hl hv => by
  have e : vs = ord.map (·.2) := by
    refine List.ext_getElem? fun i => ?_
    by_cases h : i < vs.length
    · have hv' := hv i vs[i] (by simp)
      rw [List.getElem?_map, hv']; simp
    · rw [List.getElem?_eq_none (by omega), List.getElem?_eq_none (by simp; omega)]
  obtain ⟨ns', h1, h2⟩ := ints_map_perm hp hi
  exact ⟨ns', e ▸ h1, h2.symm.nodup nd, fun k => (h2.mem_iff).trans (hm k)⟩
theorem outs_drawn {es : List (Int × Value)} {ns ks : List Int} {pl : List Nat} (hi : IntsAre (es.map (·.2)) ns) (nd : ns.Nodup) (hm : ∀ k, k ∈ ns ↔ k ∈ ks) (hp : pl.Perm (List.range es.length)) : Outs pl.length (fun i v => ∃ p e, pl[i]? = some p ∧ es[p]? = some e ∧ v = e.2) ks := fun vs hl hv => by
  have e : vs = pl.map (fun p => (es.map (·.2)).getD p .none) := by
    refine List.ext_getElem? fun i => ?_
    by_cases h : i < vs.length
    · obtain ⟨p, en, h1, h2, h3⟩ := hv i vs[i] (by simp)
      rw [List.getElem?_map, h1, List.getElem?_eq_getElem h, h3]
      simp [List.getD, h2]
    · rw [List.getElem?_eq_none (by omega), List.getElem?_eq_none (by simp; omega)]
  have hp2 : vs.Perm (es.map (·.2)) := by
    rw [e]
    have := hp.map (fun p => (es.map (·.2)).getD p Value.none)
    rw [show List.range es.length = List.range (es.map (·.2)).length by simp, map_getD] at this
    exact this
  obtain ⟨ns', h1, h2⟩ := ints_perm hp2 hi
  exact ⟨ns', h1, h2.symm.nodup nd, fun k => (h2.mem_iff).trans (hm k)⟩
theorem set_iter {S : Addr} {ks : List Int} {Q : Value → Shared → Prop} (hh : A.handled = none) (hS : SetI P w s.heap S (!w.params.followText "set-order") ks)
    (h : ∀ (I : Addr) (h2 : Heap) (dr : Drawn) (fp : List Addr) (n : Nat) (Pv : Nat → Value → Prop) (St : Nat → Heap → Prop), (∀ b o, s.heap.get? b = some o → h2.get? b = some o) → Walks P w A I fp [I] n Pv St → St 0 h2 → (∀ b ∈ fp, b = S ∨ s.heap.get? b = none) → s.heap.get? I = none → n < scanBound → Outs n Pv ks →
      Q (.ref I) { s with heap := h2, drawn := dr }) : wpAny (model P w) A (pyIter (.ref S)) Q E s := by
  obtain ⟨o, es, ep, t, ns, ho, hex, hd, hel, hi, nd, hm, hb, hf, hT⟩ := hS
  have hTy : s.TypeIs (.ref S) "set" := ⟨o, ho, hex.1⟩
  have hSlt := Heap.lt_size ho
  refine wpAny_pyIter_slot hTy F.slot_set_iter (wpAny_call_entry F.slot_set_iter hTy F.set_iter_e ?_ (F.args_set_iter_1 _))
  unfold Builtin.«frozenset.__iter__»
  refine wpAny_bind (wpAny_pure ?_)
  show wpAny _ _ (Builtin.Frozenset.sizeOf S >>= _) _ _ _
  unfold Builtin.Frozenset.sizeOf
  refine wpAny_bind (wpAny_bind (wpAny_setEntries_of ho hd hf (wpAny_pure ?_)))
  unfold setDrawn
  refine wpAny_bind (wpAny_bind (wpAny_setState_of ho hd hf ?_))
  dsimp only
  unfold setsByText
  refine wpAny_bind (wpAny_bind (wpAny_askSetting (wpAny_pure (wpAny_pure ?_))))
  show wpAny _ _ (if (!w.params.followText "set-order" && (!t.plain && decide (es.size > 1))) = true then _ else _) _ _ _
  have hnone : ∀ {h' : Heap} {b : Addr}, s.heap.objs.size ≤ b → s.heap.get? b = none := fun hb => Heap.get?_none_of_le hb
  by_cases hc : (!w.params.followText "set-order" && (!t.plain && decide (es.size > 1))) = true
  · rw [if_pos hc]
    refine wpAny_bind (own_order es.size (List.range es.size) _ _ (by simp) fun pl dr hp => ?_)
    have hpl : pl.length = es.size := by rw [hp.length_eq, List.length_range]
    refine wpAny_bind (wpAny_newTuple ?_ (by rw [List.length_map, hpl]; exact fits_of_scanBound hb))
    refine wpAny_bind (wpAny_setEpoch_of (s := { s with heap := s.heap.push { cls := .type "tuple", data := .seq (pl.map fun (k : Nat) => rawInt k).toArray }, drawn := dr }) (Heap.get?_push_of_some _ ho) hd hf ?_)
    refine wpAny_bind (wpAny_newObj_type (wpAny_pure ⟨_, rfl, "set_iterator", _, ⟨_, Heap.get?_push_size _ rfl, rfl⟩, F.si_next.lookup, ?_⟩))
    have hsz : (s.heap.push { cls := .type "tuple", data := .seq (pl.map fun (k : Nat) => rawInt k).toArray }).objs.size = s.heap.objs.size + 1 := Heap.size_push ..
    have e2 : ∀ b ob, s.heap.get? b = some ob → ((s.heap.push { cls := .type "tuple", data := .seq (pl.map fun (k : Nat) => rawInt k).toArray }).push (siObj (.ref s.heap.objs.size) S 0 es.size ep)).get? b = some ob := fun b ob e => Heap.get?_push_of_some _ (Heap.get?_push_of_some _ e)
    refine h _ _ dr [_, S, s.heap.objs.size] pl.length _ _ e2 (walks_drawn (t := t) hh ?_ ?_ hp) ⟨?_, ⟨⟨o, e2 _ _ ho, hex, hd⟩, hf⟩, ?_⟩ ?_ ?_ (by rw [hpl]; exact hb) (outs_drawn hi nd hm (by simpa using hp))
    · rw [hsz]; exact Nat.ne_of_lt (Nat.lt_succ_of_lt hSlt)
    · rw [hsz]; exact Nat.ne_of_lt (Nat.lt_succ_self _)
    · exact Heap.get?_push_size _ rfl
    · exact Heap.get?_push_of_some _ (Heap.get?_push_size _ rfl)
    · intro b hb'
      simp only [List.mem_cons, List.not_mem_nil, or_false] at hb'
      rcases hb' with rfl | rfl | rfl
      · exact .inr (Heap.get?_none_of_le (by rw [hsz]; exact Nat.le_succ _))
      · exact .inl rfl
      · exact .inr (Heap.get?_none_of_le (Nat.le_refl _))
    · exact Heap.get?_none_of_le (by rw [hsz]; exact Nat.le_succ _)
  · rw [if_neg hc]
    refine wpAny_bind (wpAny_pure (wpAny_bind (wpAny_setEpoch_of ho hd hf ?_)))
    refine wpAny_bind (wpAny_newObj_type (wpAny_pure ⟨_, rfl, "set_iterator", _, ⟨_, Heap.get?_push_size _ rfl, rfl⟩, F.si_next.lookup, ?_⟩))
    have e2 : ∀ b ob, s.heap.get? b = some ob → (s.heap.push (siObj (.int 0 0) S 0 es.size ep)).get? b = some ob := fun b ob e => Heap.get?_push_of_some _ e
    have hne : S ≠ s.heap.objs.size := Nat.ne_of_lt hSlt
    have hfp : ∀ b ∈ [s.heap.objs.size, S], b = S ∨ s.heap.get? b = none := fun b hb' => by
      simp only [List.mem_cons, List.not_mem_nil, or_false] at hb'
      rcases hb' with rfl | rfl
      · exact .inr (Heap.get?_none_of_le (Nat.le_refl _))
      · exact .inl rfl
    cases ht : w.params.followText "set-order" with
    | true =>
      have pm := pick_all (w.params.setOrder S ep) es
      have hlen : (pickOrder (w.params.setOrder S ep) es).toList.length < scanBound := by rw [pm.length_eq, Array.length_toList]; exact hb
      exact h _ _ s.drawn [s.heap.objs.size, S] _ _ _ e2 (walks_text (t := t) (slot := 0) hh ht hne) ⟨Heap.get?_push_size _ rfl, ⟨⟨o, e2 _ _ ho, hex, hd⟩, hf⟩⟩ hfp (Heap.get?_none_of_le (Nat.le_refl _)) hlen (outs_of hi nd hm pm)
    | false =>
      rw [ht] at hT hc
      have hp : t.plain = true ∨ es.size ≤ 1 := by
        cases hpl : t.plain with
        | true => exact .inl rfl
        | false =>
          rw [hpl] at hc
          refine .inr (Nat.le_of_not_lt fun z => hc ?_)
          simpa using z
      exact h _ _ s.drawn [s.heap.objs.size, S] _ _ _ e2 (walks_places hh ht hne hT hf hp) ⟨Heap.get?_push_size _ rfl, ⟨⟨o, e2 _ _ ho, hex, hd⟩, hf⟩, Nat.zero_le _⟩ hfp (Heap.get?_none_of_le (Nat.le_refl _)) (by rw [Array.length_toList]; exact hb) (outs_of hi nd hm (.refl _))
end
end L2

set_option Elab.async false
set_option linter.all false
set_option maxRecDepth 100000
set_option maxHeartbeats 4000000
namespace L2
open PySem PySem.Spec PyProof.Rows
section
variable {P : Program} {w : World} {A : Around} {E : Value → Shared → Prop} {s : Shared}
theorem set_extend {S D : Addr} {ks : List Int} {R : Result → Shared → Prop} (hh : A.handled = none) (hS : SetI P w s.heap S (!w.params.followText "set-order") ks) (hne : D ≠ S) (res : Value) {c0 : Nat} (hD : s.heap.get? D = some { cls := .type "list", data := .seq #[] c0 })
    (hR : ∀ (h' : Heap) (tk : Nat) (dr : Drawn) (acc : Array Value) (c : Nat) (ns : List Int), (∀ b o, b ≠ D → s.heap.get? b = some o → h'.get? b = some o) → h'.get? D = some { cls := .type "list", dict := none, data := .seq acc c, slots := #[] } → IntsAre acc.toList ns → ns.Nodup → (∀ k, k ∈ ns ↔ k ∈ ks) →
      R (.ok (.ret res)) { s with heap := h', toks := tk, drawn := dr }) :
    wpAny (model P w) A.in1 (Builtin.List.listExtendWith (.ref D) (.ref S) res) (fun fin s' => match fin with | .done f => R (.ok f) s' | .again c' => c'.quiet = true ∧ codeAny (model P w) A c' R s') (fun e s' => R (.error e) s') s := by
  have hTy : s.TypeIs (.ref S) "set" := by
    obtain ⟨o, es, ep, t, ns, ho, hex, _⟩ := hS
    exact ⟨o, ho, hex.1⟩
  unfold Builtin.List.listExtendWith
  refine wpAny_bind (wpAny_typeOf (T := "set") hTy ?_)
  have h1 : Builtin.List.listSameRef (.ref D) (.ref S) = false := by simp [Builtin.List.listSameRef, hne]
  have h2 : (Value.type "set" == Value.type "list") = false := by decide
  have h3 : (Value.type "set" == Value.type "tuple") = false := by decide
  simp only [h1, h2, h3, Bool.or_false, Bool.false_eq_true, if_false]
  refine wpAny_bind (set_iter (A := A.in1) hh hS fun I hp dr fp n Pv St kp W st hfp hI hn outs => ?_)
  have hDp := kp _ _ hD
  have hDf : D ∉ fp := fun hm => by
    rcases hfp D hm with e | e
    · exact hne e
    · rw [hD] at e; cases e
  have key : ∀ (h4 : Heap) (c4 tk : Nat), St 0 h4 → (∀ b o, b ≠ D → s.heap.get? b = some o → h4.get? b = some o) → h4.get? D = some { cls := .type "list", data := .seq #[] c4 } →
      codeAny (model P w) A (.builtin "list.extend.loop" ⟨[.ref D, .ref I, res], []⟩) R { s with heap := h4, toks := tk, drawn := dr } := by
    intro h4 c4 tk st4 k4 hD4
    refine codeAny_extend_loopS W.toS (fits_of_scanBound hn) D hDf res n 0 _ #[] c4 rfl (Nat.zero_le _) st4 hD4 (ItemsOf.nil _) fun s5 acc c5 hm hD5 hacc => ?_
    obtain ⟨ns, i1, i2, i3⟩ := outs acc.toList (by rw [Array.length_toList]; exact hacc.1) fun j v e => hacc.2 j v (by rw [← Array.getElem?_toList]; exact e)
    rw [Moved.eq_with hm]
    refine hR s5.heap s5.toks dr acc c5 ns (fun b o hb e => hm.heap b o (fun hmem => ?_) (k4 b o hb e)) hD5 i1 i2 i3
    rcases List.mem_cons.mp hmem with z | z
    · exact hb z
    · rw [List.mem_singleton.mp z] at e; rw [hI] at e; cases e
  refine wpAny_bind (wpAny_holding (hint_set (s := { s with heap := hp, drawn := dr }) (by obtain ⟨o, ho, hc⟩ := hTy; exact ⟨o, kp _ _ ho, hc⟩) ?_))
  refine wpAny_ite_split (fun _ => ?_) (fun _ => wpAny_pure ⟨plainId_quiet PySem.F.plain_extend_loop _, key hp c0 _ st (fun b o _ e => kp b o e) hDp⟩)
  refine wpAny_bind (wpAny_rule (wpAny_bind ?_))
  show wpAny _ _ (updateSeq D (·.push .none) >>= fun _ => updateSeq D (·.pop)) _ _ _
  refine wpAny_bind (wpAny_updateSeq hDp rfl ?_)
  have g2 := Heap.get?_update_self (Obj.mapSeq (·.push Value.none)) hDp rfl
  refine wpAny_updateSeq (hz := by seq_fits) g2 rfl ?_
  have g3 := Heap.get?_update_self (Obj.mapSeq (·.pop)) g2 rfl
  refine wpAny_pure ⟨plainId_quiet PySem.F.plain_extend_loop _, key _ _ _ (W.frame 0 _ _ st fun b hb o e => ?_) (fun b o hb e => ?_) g3⟩
  · have hbD : b ≠ D := fun z => hDf (z ▸ hb)
    exact (Heap.get?_update_other _ _ (Ne.symm hbD)).trans ((Heap.get?_update_other _ _ (Ne.symm hbD)).trans e)
  · exact (Heap.get?_update_other _ _ (Ne.symm hb)).trans ((Heap.get?_update_other _ _ (Ne.symm hb)).trans (kp b o e))
theorem set_collect {S : Addr} {ks : List Int} {R : List Value → Shared → Prop} (hh : A.handled = none) (hS : SetI P w s.heap S (!w.params.followText "set-order") ks)
    (h : ∀ (h' : Heap) (tk : Nat) (dr : Drawn) (vs : List Value) (ns : List Int), (∀ b o, s.heap.get? b = some o → h'.get? b = some o) → IntsAre vs ns → ns.Nodup → (∀ k, k ∈ ns ↔ k ∈ ks) → R vs { s with heap := h', toks := tk, drawn := dr }) :
    wpAny (model P w) A (collect (.ref S)) R E s := by
  have hlt : S < s.heap.objs.size := by
    obtain ⟨o, es, ep, t, ns, ho, _⟩ := hS
    exact Heap.lt_size ho
  unfold collect
  refine wpAny_bind (wpAny_runValue (codeAny_builtin entry_proto_collect' ?_))
  rw [Around.under_plainId PySem.F.plain_proto_collect _]
  show wpAny _ A.in1 (newList [] >>= fun l => again (.builtin "list.__iadd__" ⟨[l, .ref S], []⟩)) _ _ s
  refine wpAny_bind (wpAny_newObj_type (wpAny_pure ⟨plainId_quiet PySem.F.plain_list_iadd _, codeAny_builtin entry_list_iadd' ?_⟩))
  rw [Around.under_plainId PySem.F.plain_list_iadd _]
  have hD : (s.heap.push { cls := .type "list", data := .seq ([] : List Value).toArray }).get? s.heap.objs.size = some { cls := .type "list", data := .seq #[] } := Heap.get?_push_size _ rfl
  show wpAny _ A.in1 (Builtin.List.listExtendWith (.ref s.heap.objs.size) (.ref S) (.ref s.heap.objs.size)) _ _ _
  have key := set_extend (A := A) (s := { s with heap := s.heap.push { cls := .type "list", data := .seq ([] : List Value).toArray } }) (ks := ks)
    (R := fun (q : Result) (s' : Shared) => ∃ (h' : Heap) (tk : Nat) (dr : Drawn) (acc : Array Value) (c : Nat) (ns : List Int), q = .ok (.ret (.ref s.heap.objs.size)) ∧ s' = { s with heap := h', toks := tk, drawn := dr } ∧ (∀ b o, s.heap.get? b = some o → h'.get? b = some o) ∧
      h'.get? s.heap.objs.size = some { cls := .type "list", dict := none, data := .seq acc c, slots := #[] } ∧ IntsAre acc.toList ns ∧ ns.Nodup ∧ ∀ k, k ∈ ns ↔ k ∈ ks)
    hh (hS.keep fun o e => Heap.get?_push_of_some _ e) (Nat.ne_of_gt hlt) (.ref s.heap.objs.size) hD
    (fun h' tk dr acc c ns hk g i1 i2 i3 => ⟨h', tk, dr, acc, c, ns, rfl, rfl, fun b o e => hk b o (Nat.ne_of_lt (Heap.lt_size e)) (Heap.get?_push_of_some _ e), g, i1, i2, i3⟩)
  refine wpAny_mono key (fun fin s' x => ?_) fun e s' x => ?_
  · cases fin with
    | done f =>
      obtain ⟨h', tk, dr, acc, c, ns, e, rfl, hk, g, i1, i2, i3⟩ := x
      cases e
      show wpAny _ A (load s.heap.objs.size >>= _) _ _ _
      exact wpAny_bind (wpAny_load g (wpAny_pure (h h' tk dr acc.toList ns hk i1 i2 i3)))
    | again c1 =>
      refine ⟨x.1, codeAny_mono x.2 fun q s2 y => ?_⟩
      obtain ⟨h', tk, dr, acc, c, ns, rfl, rfl, hk, g, i1, i2, i3⟩ := y
      show wpAny _ A (load s.heap.objs.size >>= _) _ _ _
      exact wpAny_bind (wpAny_load g (wpAny_pure (h h' tk dr acc.toList ns hk i1 i2 i3)))
  · obtain ⟨_, _, _, _, _, _, z, _⟩ := x
    cases z
theorem sorted_set {S : Addr} {ks : List Int} {Q : Value → Shared → Prop} (hh : A.handled = none) (hS : SetI P w s.heap S (!w.params.followText "set-order") ks) (h64 : ∀ ns : List Int, ns.Nodup → (∀ k ∈ ns, k ∈ ks) → ns.length < 64)
    (h : ∀ (h1 h2 : Heap) (tk : Nat) (dr : Drawn) (out : List Value) (ns : List Int) (e : Nat), (∀ b o, s.heap.get? b = some o → h1.get? b = some o) → (∀ b o, h1.get? b = some o → h2.get? b = some o) → IntsAre out ns → ns.Nodup → ns.Pairwise (· ≤ ·) → (∀ k, k ∈ ns ↔ k ∈ ks) →
      h2.get? h1.objs.size = some { cls := .type "list", data := .seq out.toArray e } → Q (.ref h1.objs.size) { s with heap := h2, toks := tk, drawn := dr }) :
    wpAny (model P w) A (call (.builtin "sorted") [.ref S]) Q E s := by
  refine Calls.call_function_entry kind_sorted plain_sorted entry_sorted (args_sorted1 _) ?_
  unfold Builtin.«sorted»
  refine wpAny_bind (m := checkCount "sorted" 1 1 _) (wpAny_pure ?_)
  refine wpAny_bind (set_collect (A := A.in1) hh hS fun h' tk dr vs ns hk i1 i2 i3 => ?_)
  have hl : vs.length < 64 := by rw [i1.length]; exact h64 ns i2 fun k hk => (i3 k).mp hk
  refine wpAny_bind (wpAny_newList ?_ (small (m := 64) (Nat.le_of_lt hl)))
  have hoL : (h'.push (seqObj "list" vs.toArray 0)).get? h'.objs.size = some (seqObj "list" vs.toArray 0) := Heap.get?_push_size _ rfl
  refine wpAny_bind (wpAny_holding (wpAny_call_entry slot_list_sort ⟨_, hoL, rfl⟩ entry_list_sort (list_sort_tree (n := 0) hoL i1 hl fun out ns' a1 a2 a3 => ⟨_, rfl, ?_⟩) (args_list_sort _)))
  obtain ⟨e, he⟩ := sortedHeap_at (out := out) hoL
  refine wpAny_pure ⟨_, rfl, h h' _ tk dr out.toList ns' e hk (fun b o q1 => ?_) a1 (a2.symm.nodup i2) a3 (fun k => a2.mem_iff.trans (i3 k)) (by simpa using he)⟩
  rw [sortedHeap_old (Nat.ne_of_lt (Heap.lt_size q1)) (by rw [size_push']; exact Nat.lt_succ_of_lt (Heap.lt_size q1))]
  exact Heap.get?_push_of_some _ q1
end
/-! ### sorted(set(xs)) of a list of ints: the ints, rising, each once -/
theorem rise_lt {ns : List Int} (h : ns.Pairwise (· ≤ ·)) (d : ns.Nodup) : ns.Pairwise (· < ·) := by
  refine (h.and d).imp fun ⟨a, b⟩ => ?_
  omega
def tSSet (K : PySem.W.Frag) (ta : TA) : TE := fun σ H Q => ta σ H fun vs H1 => ∃ (a : Addr) (ks : List Int), vs = [.ref a] ∧ SqL K H1 a (ks.map V.int) ∧ ks.length + 1 < 4096 ∧ (∀ ns : List Int, ns.Nodup → (∀ k ∈ ns, k ∈ ks) → ns.length < 64) ∧
  ∀ (p : Addr) (ns : List Int), H1 p = none → ns.Pairwise (· < ·) → (∀ k, k ∈ ns ↔ k ∈ ks) → Q (.ref p) (upd H1 p (.lst (ns.map V.int)))
theorem pe_sorted_set {X : Cx} {e : Expr} {ta : TA} {p1 p2 pos1 pos2 : Pos} (hc : X.calm = true) (hg : Gl X "sorted") (hm : X.mg "sorted" = none) (hg2 : Gl X "set") (hm2 : X.mg "set" = none) (he : PA X [e] ta)
    (h1 : starEach [e] X.env = [(false, eval e X.env)] := by rfl) (h2 : starEach [.Call (.Name "set" p2) [e] [] pos2] X.env = [(false, eval (.Call (.Name "set" p2) [e] [] pos2) X.env)] := by rfl) :
    PE X (.Call (.Name "sorted" p1) [.Call (.Name "set" p2) [e] [] pos2] [] pos1) (tSSet X.K ta) := by
  intro pins s σ H Q I h
  have inner : wpAny (model X.prog X.w) X.A (eval (.Call (.Name "set" p2) [e] [] pos2) X.env) (fun v s1 => ∃ (S : Addr) (H1 : Hp) (ks : List Int), v = .ref S ∧ Inv X pins σ H1 s1 ∧ SetI X.prog X.w s1.heap S (!X.w.params.followText "set-order") ks ∧ (∀ ns : List Int, ns.Nodup → (∀ k ∈ ns, k ∈ ks) → ns.length < 64) ∧
      ∀ (p : Addr) (ns : List Int), H1 p = none → ns.Pairwise (· < ·) → (∀ k, k ∈ ns ↔ k ∈ ks) → Q (.ref p) (upd H1 p (.lst (ns.map V.int)))) X.xe s := by
    refine Call_ (ld_blt I hg2 hm2 PyProof.Rows.boot_set (PyProof.Rows.callWith_type1 (thn (he pos2 pins s σ H _ I h) fun us s1 ⟨vs, H1, I1, r, q⟩ => ?_) h1 rfl))
    obtain ⟨a, ks, rfl, ha, hz, h64, q⟩ := q
    obtain ⟨u, rfl, ru⟩ := vals1 r
    cases ru
    obtain ⟨its, rv, pl, _⟩ := I1.list ha
    have hi : IntsAre its ks := intsAre_of rv
    have hs : its.toArray.size = ks.length := by rw [List.size_toArray]; exact hi.length
    refine PySem.own_set_list (I1.ok.hd hc) pl.isList (by simpa using hi) (by rw [hs]; exact hz) fun h' tk sI k => ?_
    rw [hs, map_getD] at sI
    exact ⟨_, H1, ks, rfl, I1.kept (t' := tk) k, sI, h64, q⟩
  refine Call_ (ld_blt I hg hm PyProof.Rows.boot_sorted (PyProof.Rows.callWith_builtin1 (by
    rw [h2]
    refine Calls.spliced_cons (thn inner fun v s1 x => Calls.spliced_nil ?_)
    obtain ⟨S, H1, ks, rfl, I1, sI, h64, q⟩ := x
    refine sorted_set (I1.ok.hd hc) sI h64 fun h1 h2 tk dr out ns e k1 k2 i1 nd pw mem ho => ?_
    have I2 : Inv X pins σ H1 { s1 with heap := h1, toks := tk, drawn := dr } := I1.call' (s' := { s1 with heap := h1, toks := tk, drawn := dr }) (ch := []) rfl (Un.kept k1) (I1.hok.kept k1) I1.bare (fun _ z => nomatch z)
    have hz : (ns.map V.int).length ≤ sizeLine := by rw [List.length_map]; exact small (m := 64) (Nat.le_of_lt (h64 ns nd fun k hk => (mem k).mp hk))
    exact ⟨.ref h1.objs.size, _, I2.laid (t' := tk) (o := .lst (ns.map V.int)) k2 (Nat.le_refl _) ⟨hz, out, e, vals_of i1, ho⟩, rfl, q _ ns I2.fresh (rise_lt pw nd) mem⟩) h2 rfl))
end L2

set_option Elab.async false
set_option linter.all false
set_option maxRecDepth 100000
set_option maxHeartbeats 1000000
namespace L2
open PySem PySem.Spec PyProof.Rows
theorem flat_ints (ns : List Int) : (ns.map V.int).all flatV = true := by rw [List.all_eq_true]; intro v hv; obtain ⟨i, _, rfl⟩ := List.mem_map.mp hv; rfl
theorem inV_ints (x : Int) (ns : List Int) : inV (.int x) (ns.map V.int) = decide (x ∈ ns) := by
  unfold inV
  rw [List.any_map, Bool.eq_iff_iff, decide_eq_true_iff, List.any_eq_true]
  constructor
  · rintro ⟨y, hy, e⟩
    have : y = x := by simpa [eqV] using e
    exact this ▸ hy
  · intro h
    exact ⟨x, h, by simp [eqV]⟩
theorem int_of_at {ns : List Int} {i : Nat} {x : V} (h : (ns.map V.int)[i]? = some x) : ∃ z, ns[i]? = some z ∧ x = .int z := by
  rw [List.getElem?_map] at h
  cases e : ns[i]? with
  | none => rw [e] at h; cases h
  | some z => rw [e] at h; exact ⟨z, rfl, (Option.some.inj h).symm⟩
theorem smlt {n m : Nat} (h : n ≤ m) (hm : m + 1 ≤ 1000000 := by decide) : n < sizeLine := small (n := n + 1) (m := m + 1) (Nat.succ_le_succ h) hm
theorem mem_take_snoc {xs : List Int} {i : Nat} {z : Int} (h : xs[i]? = some z) {x : Int} : x ∈ xs.take (i + 1) ↔ x ∈ xs.take i ∨ x = z := by
  rw [List.take_add_one, h]; simp
/-! ### a list that is being built at g, its items new and without g -/
def del (H : Hp) (g : Addr) : Hp := fun b => if b = g then none else H b
theorem del_at {H : Hp} {g b : Addr} (h : b ≠ g) : del H g b = H b := if_neg h
theorem del_upd {H : Hp} {g : Addr} {o : HO} : del (upd H g o) g = del H g := by
  funext b
  by_cases e : b = g
  · unfold del; rw [if_pos e, if_pos e]
  · rw [del_at e, del_at e, upd_ne e]
theorem del_same (H : Hp) (g : Addr) : Same (del H g) H := fun b o e => by
  by_cases q : b = g
  · unfold del at e; rw [if_pos q] at e; cases e
  · rw [del_at q] at e; exact e
theorem del_mono {H H' : Hp} (s : Same H H') (g : Addr) : Same (del H g) (del H' g) := fun b o e => by
  by_cases q : b = g
  · unfold del at e; rw [if_pos q] at e; cases e
  · rw [del_at q] at e; rw [del_at q]; exact s b o e
def home (H H2 : Hp) (g : Addr) : Hp := newp H (del H2 g)
structure Bld {α : Type} (R : Rel α) (H H2 : Hp) (g : Addr) (xs : List α) : Prop where
  g0 : H g = none
  s : Same H H2
  ex : ∃ vs, H2 g = some (.lst vs) ∧ Paired (R (home H H2 g)) xs vs
section
variable {α : Type} {R : Rel α} {H H1 H2 H3 : Hp} {g : Addr} {xs : List α}
theorem Bld.start (s : Same H H1) (h : H1 g = none) : Bld R H (upd H1 g (.lst [])) g [] := ⟨s.free h, s.trans (same_upd h _), [], upd_same, .nil⟩
theorem Bld.go (m : MonoR R) (b : Bld R H H2 g xs) (s : Same H2 H3) : Bld R H H3 g xs := by
  obtain ⟨g0, s0, vs, h, p⟩ := b
  exact ⟨g0, s0.trans s, vs, s _ _ h, paired_mono m (newp_mono (Same.refl _) (del_mono s g)) p⟩
theorem Bld.push (m : MonoR R) (b : Bld R H H2 g xs) (s : Same H2 H3) {x : α} {v : V} (r : R (newp H2 H3) x v) : ∃ vs, H3 g = some (.lst vs) ∧ vs.length = xs.length ∧ Bld R H (upd H3 g (.lst (vs ++ [v]))) g (xs ++ [x]) := by
  have b3 := b.go m s
  obtain ⟨g0, s0, vs, h, p⟩ := b3
  refine ⟨vs, h, p.length.symm, g0, s0.put g0 _, vs ++ [v], upd_same, ?_⟩
  have e : home H (upd H3 g (.lst (vs ++ [v]))) g = home H H3 g := by unfold home; rw [del_upd]
  rw [e]
  refine Paired.app p (.cons (m.up (fun c o q => ?_) r) .nil)
  have hc2 : H2 c = none := by
    cases z : H2 c with
    | none => rfl
    | some u => rw [newp_none z] at q; cases q
  rw [newp_at hc2] at q
  have hcg : c ≠ g := fun z => by subst z; rw [b.ex.choose_spec.1] at hc2; cases hc2
  unfold home
  rw [newp_at (b.s.free hc2), del_at hcg]; exact q
theorem Bld.done (m : MonoR R) (b : Bld R H H2 g xs) : rLst R (newp H H2) xs (.ref g) := by
  obtain ⟨g0, s0, vs, h, p⟩ := b
  exact ⟨g, vs, rfl, by rw [newp_at g0]; exact h, paired_mono m (newp_mono (Same.refl _) (del_same _ _)) p⟩
theorem Bld.sq (b : Bld R H H2 g xs) : ∃ vs, H2 g = some (.lst vs) ∧ vs.length = xs.length := by
  obtain ⟨vs, h, p⟩ := b.ex
  exact ⟨vs, h, p.length.symm⟩
end
theorem newp_up {H H1 H2 : Hp} (s : Same H H1) : Same (newp H1 H2) (newp H H2) := newp_mono s (Same.refl _)
theorem new_ints {H H' : Hp} {p : Addr} {ns : List Int} (h : H p = none) (h' : H' p = some (.lst (ns.map V.int))) : rLst rInt (newp H H') ns (.ref p) := rLst_ints.mpr ⟨p, rfl, by rw [newp_at h]; exact h'⟩
/-! ### games -/
abbrev Row := Int × Int × List Int
abbrev rRow : Rel Row := rT3 rInt rInt (rLst rInt)
abbrev rGame : Rel (List Row) := rLst rRow
theorem mono_row : MonoR rRow := mono_t3 mono_int mono_int (mono_lst mono_int)
theorem mono_game : MonoR rGame := mono_lst mono_row
theorem row_parts {H : Hp} {r : Row} {v : V} (h : rRow H r v) : ∃ t wa, v = .ref t ∧ H t = some (.tup [.int r.1, .int r.2.1, .ref wa]) ∧ H wa = some (.lst (r.2.2.map V.int)) := by
  obtain ⟨t, x, y, z, rfl, h1, h2, h3, h4⟩ := h
  obtain ⟨wa, rfl, h5⟩ := rLst_ints.mp h4
  cases h2; cases h3
  exact ⟨t, wa, rfl, h1, h5⟩
theorem row_new {H H1 : Hp} {h r : Int} {ws : List Int} {wa t : Addr} (s : Same H H1) (h1 : H wa = none) (h2 : H1 wa = some (.lst (ws.map V.int))) (ht : H1 t = none) : rRow (newp H (upd H1 t (.tup [.int h, .int r, .ref wa]))) (h, r, ws) (.ref t) := by
  refine ⟨t, _, _, _, rfl, ?_, rfl, rfl, new_ints h1 ?_⟩
  · rw [newp_at (s.free ht), upd_same]
  · rw [upd_ne (ne_of_none h2 ht)]; exact h2
theorem game_parts {H : Hp} {G : List Row} {v : V} (h : rGame H G v) : ∃ g vs, v = .ref g ∧ H g = some (.lst vs) ∧ vs.length = G.length ∧
    ∀ (i : Nat) (r : Row), G[i]? = some r → ∃ t wa, vs[i]? = some (.ref t) ∧ H t = some (.tup [.int r.1, .int r.2.1, .ref wa]) ∧ H wa = some (.lst (r.2.2.map V.int)) := by
  obtain ⟨g, vs, rfl, h1, p⟩ := h
  refine ⟨g, vs, rfl, h1, p.length.symm, fun i r hr => ?_⟩
  obtain ⟨y, hy, ry⟩ := Paired.at p hr
  obtain ⟨t, wa, rfl, h2, h3⟩ := row_parts ry
  exact ⟨t, wa, hy, h2, h3⟩
theorem getI {α : Type} {xs : List α} {z : Int} (h0 : 0 ≤ z) (h1 : z < xs.length) : ∃ x, xs[z.toNat]? = some x := ⟨xs[z.toNat]'(by omega), by simp⟩
theorem atI_i {vs : List V} {z : Int} {v : V} (h0 : 0 ≤ z) (h : vs[z.toNat]? = some v) : atI vs z = some v := by
  have := atI_nat h
  rwa [Int.toNat_of_nonneg h0] at this
/-! ### the rules by the frame's own K (so that a comprehension's items read the same in each block) -/
section
variable {X : Cx} {K : PySem.W.Frag} (hK : X.K = K)
include hK
theorem ixL : IxR X (rIxL K) := by subst hK; exact ix_list
theorem ixT : IxR X (rIxT K) := by subst hK; exact ix_tup
theorem slL : SlR X (rSlL K) := by subst hK; exact sl_list
theorem inS : OpR X (compareOp .In) (rIn K false) := by subst hK; exact op_in_seq
theorem notInS : OpR X (compareOp .NotIn) (rIn K true) := by subst hK; exact op_notIn_seq
theorem clLen : CallR X (.builtin "len") (fun xs H Q => ∃ p ys, xs = [.ref p] ∧ (SqL K H p ys ∨ SqT K H p ys) ∧ Q (.int ys.length) H) := by subst hK; exact call_len_seq
theorem clList : CallR X (.type "list") (fun xs H Q => ∃ p ys, xs = [.ref p] ∧ (SqL K H p ys ∨ SqT K H p ys) ∧ ∀ l, H l = none → Q (.ref l) (upd H l (.lst ys))) := by subst hK; exact call_list_of
theorem clIsi {T : String} : CallR X (.builtin "isinstance") (fun xs H Q => ∃ x S b, xs = [x, .ty T] ∧ kindV H x S ∧ PySem.W.kitOne K (.type S) (.type T) = some b ∧ Q (.bl b) H) := by subst hK; exact call_isi
theorem ptg2 {x y : Str} {p1 p2 pos : Pos} {k : Nat} (hc : X.calm = true) (hN : X.N.Nodup) (h0 : X.N[0]? = some x) (h1 : X.N[1]? = some y) (hx : X.env.scope.names.lookup x = some .local) (hy : X.env.scope.names.lookup y = some .local) :
    PTg X 2 (.Tuple [.Name x p1, .Name y p2] k pos) (ttTup K 2) := by subst hK; exact ptg_tup2 hc hN h0 h1 hx hy
end
theorem comp_listD {K : PySem.W.Frag} {a : Addr} {xs : List V} {tt : TTg} {tc : TT} {te : TE} {cap : List Nat} {σ : St} {H : Hp} {D : Addr → List V → Hp → Prop} (Pv : Nat → List V → Hp → Prop) (h0 : Pv 0 [] H) (hz : xs.length ≤ sizeLine) (hl : ∀ i ys H, i ≤ xs.length → Pv i ys H → SqL K H a xs ∧ ys.length ≤ i)
    (hs : ∀ i x ys H, xs[i]? = some x → Pv i ys H → tt x H fun ws => tc (ws.map some ++ capS σ cap) H fun b H4 => if b = true then te (ws.map some ++ capS σ cap) H4 fun y H5 => Pv (i + 1) (ys ++ [y]) H5 else Pv (i + 1) ys H4)
    (hd : ∀ ys H, Pv xs.length ys H → ∀ p, H p = none → D p ys H) :
    ∃ W : Nat → Nat → List V → Hp → Prop, (∃ m, W 0 m [] H) ∧ ∀ i m ys H2, W i m ys H2 →
    ((Itl K a).stop i H2 ∧ ys.length ≤ sizeLine ∧ ∀ p, H2 p = none → D p ys H2) ∨
    ((Itl K a).go i H2 ∧ ∃ N : List V → Hp → Prop, (∀ ys' H', N ys' H' → ys'.length ≤ sizeLine ∧ ∃ m', m' < m ∧ W (i + 1) m' ys' H') ∧
      ∀ x H3, (Itl K a).yld i H2 x H3 → tt x H3 fun ws => tc (ws.map some ++ capS σ cap) H3 fun b H4 =>
        if b = true then te (ws.map some ++ capS σ cap) H4 fun y H5 => N (ys ++ [y]) H5 else N ys H4) := by
  refine ⟨fun i m ys H => m = xs.length - i ∧ i ≤ xs.length ∧ Pv i ys H, ⟨xs.length, by simp, Nat.zero_le _, h0⟩, ?_⟩
  rintro i m ys H2 ⟨rfl, hi, p⟩
  obtain ⟨q, hy⟩ := hl i ys H2 hi p
  by_cases hlt : i < xs.length
  · refine .inr ⟨⟨xs, xs[i], q, by simp [hlt]⟩, Pv (i + 1), fun ys' H' r => ?_, fun x H3 y => ?_⟩
    · obtain ⟨_, h2⟩ := hl (i + 1) ys' H' hlt r
      exact ⟨by omega, xs.length - (i + 1), by omega, rfl, hlt, r⟩
    · obtain ⟨e, y⟩ := y
      subst e
      exact hs i x ys _ (y xs q) p
  · have e : i = xs.length := by omega
    subst e
    exact .inl ⟨⟨xs, q, Nat.le_refl _⟩, by omega, hd ys H2 p⟩
theorem comp_rangeD {lo : Int} {n : Nat} {tt : TTg} {tc : TT} {te : TE} {cap : List Nat} {σ : St} {H : Hp} {D : Addr → List V → Hp → Prop} (Pv : Nat → List V → Hp → Prop) (h0 : Pv 0 [] H) (hz : n ≤ sizeLine) (hl : ∀ i ys H, i ≤ n → Pv i ys H → ys.length ≤ i)
    (hs : ∀ i ys H, i < n → Pv i ys H → tt (.int (lo + i)) H fun ws => tc (ws.map some ++ capS σ cap) H fun b H4 => if b = true then te (ws.map some ++ capS σ cap) H4 fun y H5 => Pv (i + 1) (ys ++ [y]) H5 else Pv (i + 1) ys H4)
    (hd : ∀ ys H, Pv n ys H → ∀ p, H p = none → D p ys H) :
    ∃ W : Nat → Nat → List V → Hp → Prop, (∃ m, W 0 m [] H) ∧ ∀ i m ys H2, W i m ys H2 →
    ((Itr lo n).stop i H2 ∧ ys.length ≤ sizeLine ∧ ∀ p, H2 p = none → D p ys H2) ∨
    ((Itr lo n).go i H2 ∧ ∃ N : List V → Hp → Prop, (∀ ys' H', N ys' H' → ys'.length ≤ sizeLine ∧ ∃ m', m' < m ∧ W (i + 1) m' ys' H') ∧
      ∀ x H3, (Itr lo n).yld i H2 x H3 → tt x H3 fun ws => tc (ws.map some ++ capS σ cap) H3 fun b H4 =>
        if b = true then te (ws.map some ++ capS σ cap) H4 fun y H5 => N (ys ++ [y]) H5 else N ys H4) := by
  refine ⟨fun i m ys H => m = n - i ∧ i ≤ n ∧ Pv i ys H, ⟨n, by simp, Nat.zero_le _, h0⟩, ?_⟩
  rintro i m ys H2 ⟨rfl, hi, p⟩
  have hy := hl i ys H2 hi p
  by_cases hlt : i < n
  · refine .inr ⟨hlt, Pv (i + 1), fun ys' H' r => ?_, fun x H3 y => ?_⟩
    · have h2 := hl (i + 1) ys' H' hlt r
      exact ⟨by omega, n - (i + 1), by omega, rfl, hlt, r⟩
    · obtain ⟨e, y⟩ := y
      subst e; subst y
      exact hs i ys _ hlt p
  · have e : i = n := by omega
    subst e
    exact .inl ⟨Nat.le_refl _, by omega, hd ys H2 p⟩

end L2

set_option Elab.async false
set_option linter.all false
set_option maxRecDepth 100000
set_option maxHeartbeats 1000000
namespace L2
open PySem PySem.Spec PyProof.Rows
/-! ### several records of an iterator turn; a record of the heap taken into the abstract one -/
theorem Inv.turnedL {X : Cx} {pins : List (Addr × Obj)} {σ : St} {H : Hp} {s : Shared} {h' : Heap} {t' : Nat} {ch : List Addr} (I : Inv X pins σ H s) (hf : ∀ b ∈ ch, FpOk X pins H b) (k : ∀ b o, b ∉ ch → s.heap.get? b = some o → h'.get? b = some o) :
    Inv X pins σ H { s with heap := h', toks := t' } := by
  have nit : ∀ b u, H b = some u → b ∉ ch := fun b u e z => by rw [(hf b z).1] at e; cases e
  refine I.step (g' := s.gens) (d' := s.drawn) (ch := ch) (fun b hb => ?_) (fun b o _ _ hc e _ => k b o hc e) (fun b o _ _ hc e _ => ⟨o.slots, k b o hc e⟩) (fun _ _ _ _ n => n)
    (fun b o hc e => ⟨o, k b o hc e⟩) (fun _ _ e => e) (fun _ _ _ e => e) (fun b ps e => ⟨#[], by rw [e]; simp⟩) (fun m hm => ?_) (fun b u e => ?_) I.bare
  · obtain ⟨_, h1, _, h3, h4, h5⟩ := hf b hb
    exact ⟨h3, h1, h4, h5⟩
  · obtain ⟨o, es, ep, ho, r⟩ := hm
    exact ⟨o, es, ep, k _ o (fun z => (hf _ z).2.1 rfl) ho, r⟩
  · refine (I.hok b u e).stay (fun c v hc q => k c v ?_ q) (fun _ q => q) fun _ _ q => q
    rcases hc with z | z
    · rw [z]; exact nit b u e
    · exact nit c _ z
theorem Inv.adopt {X : Cx} {pins : List (Addr × Obj)} {σ : St} {H : Hp} {s : Shared} {T : Addr} {o : HO} (I : Inv X pins σ H s) (hf : FpOk X pins H T) (new : ObjOk X.prog X.w (upd H T o) s.heap T o) : Inv X pins σ (upd H T o) s := by
  obtain ⟨h0, h1, h2, h3, h4, h5⟩ := hf
  refine I.step (h' := s.heap) (g' := s.gens) (d' := s.drawn) (t' := s.toks) (ch := [T]) (fun b hb => ?_) (fun b u _ _ _ e _ => e) (fun b u _ _ _ e _ => ⟨u.slots, e⟩) (fun b u hc e n => ?_)
    (fun b u _ e => ⟨u, e⟩) (fun b xs e => ?_) (fun b u v e => ?_) (fun b ps e => ⟨#[], ?_⟩) (fun m hm => hm) (I.hok.adopt h0 new) I.bare
  · have e : b = T := by simpa using hb
    subst e
    exact ⟨h3, h1, h4, h5⟩
  · rw [upd_ne (fun z => hc (by simp [z]))]; exact n
  · rw [upd_ne (ne_of_none e h0)]; exact e
  · rw [upd_ne (ne_of_none e h0)]; exact e
  · rw [upd_ne (ne_of_none e h0), e]; simp
/-! ### enumerate over a list, to a tuple of names -/
def Ite (K : PySem.W.Frag) (a : Addr) : It :=
  ⟨fun i H => ∃ xs x, SqL K H a xs ∧ xs[i]? = some x, fun i H v H' => ∃ T x, v = .ref T ∧ H T = none ∧ (∀ xs, SqL K H a xs → xs[i]? = some x) ∧ H' = upd H T (.tup [.int (i : Nat), x]), fun i H => ∃ xs, SqL K H a xs ∧ xs.length ≤ i⟩
theorem turn_enum {P : Program} {w : World} {K : PySem.W.Frag} {elts : List Expr} {k : Nat} {pos : Pos} (a e it : Addr) (hne : e ≠ it) : Turn P w K (.Tuple elts k pos) (Ite K a) [e, it] e (fun i h => (∃ old, IsEnum h e it (i : Nat) old) ∧ h.IsListIter it a i) where
  mem := by simp
  obj := fun i h st b hb => by
    obtain ⟨⟨old, s1⟩, o, e1, c, d⟩ := st
    rcases List.mem_cons.mp hb with z | z
    · subst z
      exact ⟨_, s1, fun v z => by cases z⟩
    · have z : b = it := by simpa using z
      subst z
      exact ⟨o, e1, fun v z => by rw [d] at z; cases z⟩
  keep := fun i h h' st k => ⟨by obtain ⟨⟨old, s1⟩, _⟩ := st; exact ⟨old, k e (by simp) _ s1⟩, st.2.at fun o q => k it (by simp) o q⟩
  item := by
    intro X hP hw hK hc i pins s σ H E I hf st hg
    subst hP hw hK
    obtain ⟨xs, x, hq, hx⟩ := hg
    obtain ⟨its, rv, p, hz⟩ := I.list hq
    obtain ⟨u, hu, ru⟩ := rv.get hx
    obtain ⟨⟨old, s1⟩, s2⟩ := st
    have le : e < s.heap.objs.size := Heap.lt_size s1
    refine wpAny_pyNext_enum_item s1 s2 p.isList (x := u) (by simpa using hu) hne fun h' ho hi' ht hsz kp => ?_
    refine ⟨_, rfl, wpAny_letOwnedTupleGo_enum ho fun h2 he2 sb => ?_⟩
    have I1 : Inv X pins σ H { s with heap := h2, toks := s.toks + 1 } := I.turnedL (t' := s.toks + 1) (ch := [e, it]) hf fun b o hb q => by
      have hbe : b ≠ e := fun z => hb (by simp [z])
      have hbi : b ≠ it := fun z => hb (by simp [z])
      exact (sb.2 b hbe).trans (kp b o hbe hbi q)
    have hT : h2.get? s.heap.objs.size = some { cls := .type "tuple", data := .seq #[Value.int (i : Nat) s.toks, u] } := (sb.2 _ (Nat.ne_of_gt le)).trans ht
    have hfr : H s.heap.objs.size = none := I.hok.fresh (Nat.le_refl _)
    have vs2 : Vals [V.int (i : Nat), x] [Value.int (i : Nat) s.toks, u] := .cons ⟨s.toks, rfl⟩ (.cons ru .nil)
    have I2 := I1.adopt (o := .tup [.int (i : Nat), x]) (I.fpOk (Nat.le_refl _) hfr) ⟨(by show 2 ≤ sizeLine; decide), [Value.int (i : Nat) s.toks, u], vs2, ⟨_, hT, rfl, _, rfl⟩⟩
    have en : IsEnum h2 e it ((i + 1 : Nat) : Int) u := by
      have e1 : ((i + 1 : Nat) : Int) = ((i : Nat) : Int) + 1 := by omega
      rw [e1]; exact he2
    refine ⟨.ref s.heap.objs.size, _, I2, rfl, ⟨_, x, rfl, hfr, fun ys hy => by rw [I.list_inj hy hq]; exact hx, rfl⟩, ⟨⟨u, en⟩, hi'.at fun o q => (sb.2 it (Ne.symm hne)).trans q⟩, fun b hb => ?_⟩
    rw [upd_ne (fun z => ?_)]
    · exact (hf b hb).1
    · subst z
      rcases List.mem_cons.mp hb with z | z
      · exact absurd z (Nat.ne_of_gt le)
      · have z : s.heap.objs.size = it := by simpa using z
        obtain ⟨o, q, _⟩ := s2
        exact absurd z (Nat.ne_of_gt (Heap.lt_size q))
  done := by
    intro X hP hw hK hc i pins s σ H E I hf st hg
    subst hP hw hK
    obtain ⟨xs, hq, hx⟩ := hg
    obtain ⟨its, rv, p, hz⟩ := I.list hq
    obtain ⟨⟨old, s1⟩, s2⟩ := st
    have hl := rv.length
    refine wpAny_pyNext_enum_end (I.ok.hd hc) s1 s2 p.isList (by simp; omega) fun h' eb => ⟨rfl, ?_⟩
    exact I.turnedL (t' := s.toks) (ch := [it]) (fun b hb => hf b (List.mem_cons_of_mem _ hb)) fun b o hb q => eb b o (fun z => hb (by simp [z])) q
  self := fun _ _ _ _ _ st h => wpAny_pyIter_enum st.1.choose_spec h
def iEnum (K : PySem.W.Frag) (ta : TA) : TI := fun σ H R => ta σ H fun vs H1 => ∃ a, vs = [.ref a] ∧ (∃ xs, SqL K H1 a xs) ∧ R (Ite K a) H1
theorem pi_enum {X : Cx} {K : PySem.W.Frag} {elts : List Expr} {k : Nat} {tpos : Pos} {l : Expr} {ta : TA} {p pos : Pos} (hK : X.K = K) (hg : Gl X "enumerate") (hm : X.mg "enumerate" = none) (ha : PA X [l] ta) (hs : starEach [l] X.env = [(false, eval l X.env)] := by rfl) :
    PI X (.Tuple elts k tpos) (.Call (.Name "enumerate" p) [l] [] pos) (iEnum K ta) := by
  subst hK
  intro pins s σ H R I h
  refine Call_ (ld_blt I hg hm PyProof.Rows.boot_enumerate (PyProof.Rows.callWith_type1 (thn (ha pos pins s σ H _ I h) fun us s1 ⟨vs, H1, I1, r1, q1⟩ => ?_) hs rfl))
  obtain ⟨a, rfl, ⟨xs, hq⟩, q⟩ := q1
  obtain ⟨u, rfl, ru⟩ := vals1 r1
  cases ru
  obtain ⟨its, rv, p, hz⟩ := I1.list hq
  refine call_enumerate_list p.isList fun h' he hi hsz kp => ?_
  refine wpAny_pyIter_enum he ?_
  refine ⟨s1.heap.objs.size + 1, [s1.heap.objs.size + 1, s1.heap.objs.size], _, _, H1, rfl, I1.kept (t' := s1.toks) kp, turn_enum a _ _ (Nat.succ_ne_self _), ⟨⟨_, he⟩, hi⟩, fun b hb => ?_, q⟩
  have hb' : s1.heap.objs.size ≤ b := by
    rcases List.mem_cons.mp hb with z | z
    · rw [z]; exact Nat.le_succ _
    · have z : b = s1.heap.objs.size := by simpa using z
      rw [z]; exact Nat.le_refl _
  exact I1.fpOk hb' (I1.hok.fresh hb')
theorem for_enum {K : PySem.W.Frag} {a : Addr} {xs : List V} {g : TG} {tb : TS} {D : Ends} {σ : St} {H : Hp} (Pv : Nat → St → Hp → Prop) (h0 : Pv 0 σ H) (hl : ∀ i σ H, i ≤ xs.length → Pv i σ H → SqL K H a xs)
    (hs : ∀ i x σ H T, xs[i]? = some x → Pv i σ H → H T = none → g (.ref T) σ (upd H T (.tup [.int (i : Nat), x])) fun σ2 H2 => tb { D with nx := Pv (i + 1), ct := Pv (i + 1), bk := D.nx } σ2 H2) (hd : ∀ σ H, Pv xs.length σ H → D.nx σ H) :
    ∃ W : Nat → Nat → St → Hp → Prop, (∃ m, W 0 m σ H) ∧ ∀ i m σ H, W i m σ H →
      ((Ite K a).stop i H ∧ D.nx σ H) ∨ ((Ite K a).go i H ∧ ∃ N : St → Hp → Prop, (∀ σ' H', N σ' H' → ∃ m', m' < m ∧ W (i + 1) m' σ' H') ∧ ∀ x H', (Ite K a).yld i H x H' → g x σ H' fun σ2 H2 => tb { D with nx := N, ct := N, bk := D.nx } σ2 H2) := by
  refine ⟨fun i m σ H => m = xs.length - i ∧ i ≤ xs.length ∧ Pv i σ H, ⟨xs.length, by simp, Nat.zero_le _, h0⟩, ?_⟩
  rintro i m σ H ⟨rfl, hi, p⟩
  have q := hl i σ H hi p
  by_cases hlt : i < xs.length
  · refine .inr ⟨⟨xs, xs[i], q, by simp [hlt]⟩, Pv (i + 1), fun σ' H' p' => ⟨xs.length - (i + 1), by omega, rfl, hlt, p'⟩, fun x H' y => ?_⟩
    obtain ⟨T, z, rfl, hT, y, rfl⟩ := y
    exact hs i z σ _ T (y xs q) p hT
  · have e : i = xs.length := by omega
    subst e
    exact .inl ⟨⟨xs, q, Nat.le_refl _⟩, hd σ H p⟩
end L2

set_option Elab.async false
set_option linter.all false
set_option maxRecDepth 100000
set_option maxHeartbeats 1000000
namespace L2
open PySem
/-! ### a list of lists of ints of its own: cells that may be changed one by one -/
theorem paired_of {α β : Type} {F : α → β → Prop} : ∀ {xs : List α} {ys : List β}, xs.length = ys.length → (∀ (i : Nat) x y, xs[i]? = some x → ys[i]? = some y → F x y) → Paired F xs ys
  | [], [], _, _ => .nil
  | x :: xs, y :: ys, hl, h => .cons (h 0 x y rfl rfl) (paired_of (by simpa using hl) fun i a b ha hb => h (i + 1) a b (by simpa using ha) (by simpa using hb))
  | [], _ :: _, hl, _ => by cases hl
  | _ :: _, [], hl, _ => by cases hl
structure Cells (H : Hp) (r : Addr) (as : List Addr) (Ls : List (List Int)) : Prop where
  hd : H r = some (.lst (as.map V.ref))
  nd : as.Nodup
  rn : r ∉ as
  len : as.length = Ls.length
  cell : ∀ (i : Nat) a, as[i]? = some a → ∃ L, Ls[i]? = some L ∧ H a = some (.lst (L.map V.int))
theorem nodup_at2 {α : Type} {as : List α} (h : as.Nodup) {i j : Nat} {a : α} (h1 : as[i]? = some a) (h2 : as[j]? = some a) : i = j := by
  obtain ⟨l1, e1⟩ := List.getElem?_eq_some_iff.mp h1
  obtain ⟨l2, e2⟩ := List.getElem?_eq_some_iff.mp h2
  exact (List.getElem_inj h).mp (e1.trans e2.symm)
section
variable {H H' : Hp} {r : Addr} {as : List Addr} {Ls : List (List Int)}
theorem Cells.up (c : Cells H r as Ls) (s : Same H H') : Cells H' r as Ls := ⟨s _ _ c.hd, c.nd, c.rn, c.len, fun i a h => by
  obtain ⟨L, h1, h2⟩ := c.cell i a h
  exact ⟨L, h1, s _ _ h2⟩⟩
theorem Cells.put (c : Cells H r as Ls) {i : Nat} {a : Addr} (h : as[i]? = some a) (L : List Int) : Cells (upd H a (.lst (L.map V.int))) r as (Ls.set i L) := by
  refine ⟨?_, c.nd, c.rn, by rw [List.length_set]; exact c.len, fun j b hb => ?_⟩
  · rw [upd_ne (fun z => c.rn (by rw [z]; exact List.mem_of_getElem? h))]; exact c.hd
  · by_cases e : j = i
    · subst e
      rw [h] at hb; cases hb
      refine ⟨L, ?_, upd_same⟩
      have := (List.getElem?_eq_some_iff.mp h).1
      rw [List.getElem?_set_self (by rw [← c.len]; exact this)]
    · obtain ⟨L', h1, h2⟩ := c.cell j b hb
      refine ⟨L', by rw [List.getElem?_set_ne (Ne.symm e)]; exact h1, ?_⟩
      rw [upd_ne (fun z => e (nodup_at2 c.nd (a := a) (by rw [← z]; exact hb) h))]; exact h2
theorem Cells.at (c : Cells H r as Ls) {z : Int} (h0 : 0 ≤ z) (h1 : z < Ls.length) : ∃ a L, as[z.toNat]? = some a ∧ Ls[z.toNat]? = some L ∧ atI (as.map V.ref) z = some (.ref a) ∧ H a = some (.lst (L.map V.int)) := by
  obtain ⟨a, ha⟩ := getI (xs := as) h0 (by rw [c.len]; exact h1)
  obtain ⟨L, h2, h3⟩ := c.cell _ a ha
  exact ⟨a, L, ha, h2, atI_i h0 (by rw [List.getElem?_map, ha]; rfl), h3⟩
end
end L2

set_option Elab.async false
set_option linter.all false
set_option maxRecDepth 100000
set_option maxHeartbeats 1000000
namespace L2
open PySem PySem.Spec PyProof.Rows
section
variable {X : Cx}
theorem pe_sorted_setK {K : PySem.W.Frag} {e : Expr} {ta : TA} {p1 p2 pos1 pos2 : Pos} (hK : X.K = K) (hc : X.calm = true) (hg : Gl X "sorted") (hm : X.mg "sorted" = none) (hg2 : Gl X "set") (hm2 : X.mg "set" = none) (he : PA X [e] ta)
    (h1 : starEach [e] X.env = [(false, eval e X.env)] := by rfl) (h2 : starEach [.Call (.Name "set" p2) [e] [] pos2] X.env = [(false, eval (.Call (.Name "set" p2) [e] [] pos2) X.env)] := by rfl) :
    PE X (.Call (.Name "sorted" p1) [.Call (.Name "set" p2) [e] [] pos2] [] pos1) (tSSet K ta) := by subst hK; exact pe_sorted_set hc hg hm hg2 hm2 he h1 h2
end
theorem lt_ext : ∀ {xs ys : List Int}, xs.Pairwise (· < ·) → ys.Pairwise (· < ·) → (∀ k, k ∈ xs ↔ k ∈ ys) → xs = ys
  | [], [], _, _, _ => rfl
  | [], y :: ys, _, _, h => by have := (h y).mpr List.mem_cons_self; cases this
  | x :: xs, [], _, _, h => by have := (h x).mp List.mem_cons_self; cases this
  | x :: xs, y :: ys, hx, hy, h => by
    obtain ⟨a1, a2⟩ := List.pairwise_cons.mp hx
    obtain ⟨b1, b2⟩ := List.pairwise_cons.mp hy
    have e : x = y := by
      rcases List.mem_cons.mp ((h x).mp List.mem_cons_self) with z | z
      · exact z
      · rcases List.mem_cons.mp ((h y).mpr List.mem_cons_self) with z2 | z2
        · exact z2.symm
        · have := b1 x z; have := a1 y z2; omega
    subst e
    have : xs = ys := lt_ext a2 b2 fun k => by
      constructor
      · intro hk
        rcases List.mem_cons.mp ((h k).mp (List.mem_cons_of_mem _ hk)) with z | z
        · subst z; have := a1 _ hk; omega
        · exact z
      · intro hk
        rcases List.mem_cons.mp ((h k).mpr (List.mem_cons_of_mem _ hk)) with z | z
        · subst z; have := b1 _ hk; omega
        · exact z
    rw [this]
end L2

set_option Elab.async false
set_option linter.all false
set_option maxRecDepth 100000
set_option maxHeartbeats 1000000
namespace L2
open PySem PySem.Spec PyProof.Rows
section
variable {X : Cx}
theorem rc_empty {K : PySem.W.Frag} {pins : List (Addr × Obj)} {σ : St} {H : Hp} {s : Shared} {a b : Addr} {xs : List V} (hK : X.K = K) (I : Inv X pins σ H s) (hu : X.A.units + 1 < cLine) (ha : SqL K H a xs) (hb : SqL K H b []) :
    SeqAt.RcAt X.A s (.ref a) (.ref b) xs.isEmpty ∧ SeqAt.RcNeAt X.A s (.ref a) (.ref b) !xs.isEmpty := by
  subst hK
  obtain ⟨its, rv, pl, _⟩ := I.list ha
  obtain ⟨its2, rv2, pl2, _⟩ := I.list hb
  cases rv2
  have hl := rv.length
  cases xs with
  | nil =>
    cases rv
    have he : ∀ j (h1 : j < ([] : List Value).toArray.size) (h2 : j < ([] : List Value).toArray.size), SeqAt.EqAt X.A.in1 s ([] : List Value).toArray[j] ([] : List Value).toArray[j] ((fun _ => true) j) := fun j h1 => by simp at h1
    exact ⟨SeqAt.RcAt.lists pl.isList pl2.isList rfl (by omega) he, SeqAt.RcNeAt.lists pl.isList pl2.isList rfl (by omega) he⟩
  | cons x xs =>
    have hne : (its.toArray.size != ([] : List Value).toArray.size) = true := by
      simp only [List.size_toArray, List.length_nil, bne_iff_ne]
      rw [← hl]; simp
    exact ⟨SeqAt.RcAt.lists_lengths pl.isList pl2.isList hne (by omega), SeqAt.RcNeAt.lists_lengths pl.isList pl2.isList hne (by omega)⟩
/-- xs == [] -/
theorem op_eqE {K : PySem.W.Frag} (hK : X.K = K) (hu : X.A.units + 1 < cLine) : OpR X (compareOp .Eq) (fun v w H Q => ∃ a b xs, v = .ref a ∧ w = .ref b ∧ SqL K H a xs ∧ SqL K H b [] ∧ Q (.bl xs.isEmpty) H) := by
  intro pins s σ H v w u1 u2 Q I r1 r2 h
  obtain ⟨a, b, xs, rfl, rfl, ha, hb, q⟩ := h
  cases r1; cases r2
  exact (rc_empty hK I hu ha hb).1 _ _ _ _ ⟨.bl xs.isEmpty, H, I, rfl, q⟩
theorem op_neE {K : PySem.W.Frag} (hK : X.K = K) (hu : X.A.units + 1 < cLine) : OpR X (compareOp .NotEq) (fun v w H Q => ∃ a b xs, v = .ref a ∧ w = .ref b ∧ SqL K H a xs ∧ SqL K H b [] ∧ Q (.bl (!xs.isEmpty)) H) := by
  intro pins s σ H v w u1 u2 Q I r1 r2 h
  obtain ⟨a, b, xs, rfl, rfl, ha, hb, q⟩ := h
  cases r1; cases r2
  exact (rc_empty hK I hu ha hb).2 _ _ _ _ ⟨.bl (!xs.isEmpty), H, I, rfl, q⟩
theorem call_minL (hc : X.calm = true) : CallR X (.builtin "min") (fun xs H Q => ∃ (a : Addr) (ks : List Int), xs = [.ref a] ∧ SqL X.K H a (ks.map V.int) ∧ ks ≠ [] ∧ ∀ M, M ∈ ks → (∀ k ∈ ks, M ≤ k) → Q (.int M) H) := by
  intro pins s σ H xs us Q I r h
  obtain ⟨a, ks, rfl, ha, hne, q⟩ := h
  obtain ⟨u, rfl, ru⟩ := vals1 r
  cases ru
  obtain ⟨its, rv, pl, hz⟩ := I.list ha
  have hi : IntsAre its ks := intsAre_of rv
  obtain ⟨xs, e⟩ := hi.allInts.items
  have hns : ks = xs.toList.map (·.1) := by rw [← hi.numsOf, ← nums_intItems, ← e]
  have hsz : 0 < xs.size := by
    have h3 : 0 < ks.length := List.length_pos_iff.mpr hne
    rw [hns, List.length_map, Array.length_toList] at h3; exact h3
  have hl := pl.isList
  rw [e] at hl
  refine min_intList (I.ok.hd hc) hl hsz fun v h' tk hv hk => ?_
  obtain ⟨t, rfl⟩ := intItems_at hv
  obtain ⟨h1, h2⟩ := argBest_lt (numAt xs) (xs.size - 1)
  refine ⟨.int _, H, I.kept (t' := tk) hk, ⟨t, rfl⟩, q _ ?_ fun k hk => ?_⟩
  · rw [hns, numAt_eq]; exact PySem.getD_mem (by rw [List.length_map, Array.length_toList]; omega)
  · rw [hns] at hk
    obtain ⟨j, hj, rfl⟩ := PySem.mem_getD hk
    rw [List.length_map, Array.length_toList] at hj
    rw [← numAt_eq]; exact h2 j (by omega)
end
end L2

set_option Elab.async false
set_option linter.all false
set_option maxRecDepth 100000
set_option maxHeartbeats 1000000
namespace L2
open PySem PySem.Spec PyProof.Rows
/-! ### zip of two lists, to a tuple of names -/
def Itz (K : PySem.W.Frag) (a b : Addr) : It :=
  ⟨fun i H => ∃ xs ys x y, SqL K H a xs ∧ SqL K H b ys ∧ xs[i]? = some x ∧ ys[i]? = some y,
   fun i H v H' => ∃ T x y, v = .ref T ∧ H T = none ∧ (∀ xs, SqL K H a xs → xs[i]? = some x) ∧ (∀ ys, SqL K H b ys → ys[i]? = some y) ∧ H' = upd H T (.tup [x, y]),
   fun i H => ∃ xs ys, SqL K H a xs ∧ SqL K H b ys ∧ (xs.length ≤ i ∨ ys.length ≤ i)⟩
structure ZTurn (a b z TI TO i1 i2 : Addr) (i : Nat) (h : Heap) : Prop where
  zz : IsZip h z TI TO .none
  ti : IsPair h TI (.ref i1) (.ref i2)
  to : ∃ p q, IsPair h TO p q
  s1 : h.IsListIter i1 a i
  s2 : h.IsListIter i2 b i
theorem turn_zip {P : Program} {w : World} {K : PySem.W.Frag} {elts : List Expr} {k : Nat} {pos : Pos} (a b z TI TO i1 i2 : Addr) (ap : ZipApart z TI TO i1 i2 a b) : Turn P w K (.Tuple elts k pos) (Itz K a b) [z, TI, TO, i1, i2] z (ZTurn a b z TI TO i1 i2) where
  mem := by simp
  obj := fun i h st c hc => by
    obtain ⟨zz, ti, ⟨p, q, to⟩, ⟨o1, e1, c1, d1⟩, ⟨o2, e2, c2, d2⟩⟩ := st
    simp only [List.mem_cons, List.not_mem_nil, or_false] at hc
    rcases hc with rfl | rfl | rfl | rfl | rfl
    · exact ⟨_, zz, fun v z => by cases z⟩
    · exact ⟨_, ti, fun v z => by cases z⟩
    · exact ⟨_, to, fun v z => by cases z⟩
    · exact ⟨o1, e1, fun v z => by rw [d1] at z; cases z⟩
    · exact ⟨o2, e2, fun v z => by rw [d2] at z; cases z⟩
  keep := fun i h h' st k => by
    obtain ⟨zz, ti, ⟨p, q, to⟩, s1, s2⟩ := st
    exact ⟨k z (by simp) _ zz, k TI (by simp) _ ti, ⟨p, q, k TO (by simp) _ to⟩, s1.at fun o q => k i1 (by simp) o q, s2.at fun o q => k i2 (by simp) o q⟩
  item := by
    intro X hP hw hK hc i pins s σ H E I hf st hg
    subst hP hw hK
    obtain ⟨xs, ys, x, y, hq, hq2, hx, hy⟩ := hg
    obtain ⟨its, rv, p, hz⟩ := I.list hq
    obtain ⟨its2, rv2, p2, hz2⟩ := I.list hq2
    obtain ⟨u, hu, ru⟩ := rv.get hx
    obtain ⟨u2, hu2, ru2⟩ := rv2.get hy
    obtain ⟨zz, ti, ⟨pp, qq, to⟩, s1, s2⟩ := st
    have lz : z < s.heap.objs.size := Heap.lt_size zz
    refine wpAny_pyNext_zip_item ap zz ti to s1 s2 p.isList p2.isList (x := u) (y := u2) (by simpa using hu) (by simpa using hu2) fun h' zo to' s1' s2' ht hsz kp => ?_
    refine ⟨_, rfl, wpAny_letOwnedTupleGo_zip zo fun h2 zz2 sb => ?_⟩
    have I1 : Inv X pins σ H { s with heap := h2 } := I.turnedL (t' := s.toks) (ch := [z, TI, TO, i1, i2]) hf fun c o hc q => by
      simp only [List.mem_cons, List.not_mem_nil, or_false, not_or] at hc
      exact (sb.2 c hc.1).trans (kp c o hc.1 hc.2.2.1 hc.2.2.2.1 hc.2.2.2.2 q)
    have hT : h2.get? s.heap.objs.size = some { cls := .type "tuple", data := .seq #[u, u2] } := (sb.2 _ (Nat.ne_of_gt lz)).trans ht
    have hfr : H s.heap.objs.size = none := I.hok.fresh (Nat.le_refl _)
    have I2 := I1.adopt (o := .tup [x, y]) (I.fpOk (Nat.le_refl _) hfr) ⟨(by show 2 ≤ sizeLine; decide), [u, u2], .cons ru (.cons ru2 .nil), ⟨_, hT, rfl, _, rfl⟩⟩
    have hti : IsPair h2 TI (.ref i1) (.ref i2) := (sb.2 TI ap.TIz).trans (kp TI _ ap.TIz ap.TITO ap.TIi1 ap.TIi2 ti)
    refine ⟨.ref s.heap.objs.size, _, I2, rfl, ⟨_, x, y, rfl, hfr, (fun zs hzs => by rw [I.list_inj hzs hq]; exact hx), (fun zs hzs => by rw [I.list_inj hzs hq2]; exact hy), rfl⟩,
      ⟨zz2, hti, ⟨u, u2, (sb.2 TO ap.TOz).trans to'⟩, s1'.at fun o q => (sb.2 i1 ap.i1z).trans q, s2'.at fun o q => (sb.2 i2 ap.i2z).trans q⟩, fun c hc => ?_⟩
    rw [upd_ne (fun e => ?_)]
    · exact (hf c hc).1
    · subst e
      obtain ⟨o1, e1, _⟩ := s1
      obtain ⟨o2, e2, _⟩ := s2
      simp only [List.mem_cons, List.not_mem_nil, or_false] at hc
      rcases hc with h | h | h | h | h
      · exact absurd h (Nat.ne_of_gt lz)
      · exact absurd h (Nat.ne_of_gt (Heap.lt_size ti))
      · exact absurd h (Nat.ne_of_gt (Heap.lt_size to))
      · exact absurd h (Nat.ne_of_gt (Heap.lt_size e1))
      · exact absurd h (Nat.ne_of_gt (Heap.lt_size e2))
  done := by
    intro X hP hw hK hc i pins s σ H E I hf st hg
    subst hP hw hK
    obtain ⟨xs, ys, hq, hq2, hx⟩ := hg
    obtain ⟨its, rv, p, hz⟩ := I.list hq
    obtain ⟨its2, rv2, p2, hz2⟩ := I.list hq2
    have hl := rv.length
    have hl2 := rv2.length
    obtain ⟨zz, ti, ⟨pp, qq, to⟩, s1, s2⟩ := st
    refine wpAny_pyNext_zip_end (I.ok.hd hc) ap zz ti to s1 s2 p.isList p2.isList ?_ fun h' kp => ⟨rfl, ?_⟩
    · rcases hx with h | h
      · exact .inl (by simp; (clear hc hf hz hz2 hl2; omega))
      · exact .inr (by simp; (clear hc hf hz hz2 hl; omega))
    · exact I.turnedL (t' := s.toks) (ch := [z, TI, TO, i1, i2]) hf fun c o hc q => by
        simp only [List.mem_cons, List.not_mem_nil, or_false, not_or] at hc
        exact kp c o hc.1 hc.2.2.1 hc.2.2.2.1 hc.2.2.2.2 q
  self := fun _ _ _ _ _ st h => wpAny_pyIter_zip st.zz h
theorem zip_apart (n a b : Nat) (la : a < n) (lb : b < n) : ZipApart (n + 4) (n + 2) (n + 3) n (n + 1) a b := by
  constructor
  all_goals (intro h; have h' : (_ : Nat) = _ := h; omega)
def iZip (K : PySem.W.Frag) (ta : TA) : TI := fun σ H R => ta σ H fun vs H1 => ∃ a b, vs = [.ref a, .ref b] ∧ (∃ xs, SqL K H1 a xs) ∧ (∃ ys, SqL K H1 b ys) ∧ R (Itz K a b) H1
theorem pi_zip {X : Cx} {K : PySem.W.Frag} {elts : List Expr} {k : Nat} {tpos : Pos} {l l2 : Expr} {ta : TA} {p pos : Pos} (hK : X.K = K) (hg : Gl X "zip") (hm : X.mg "zip" = none) (ha : PA X [l, l2] ta) (hs : starEach [l, l2] X.env = (false, eval l X.env) :: starEach [l2] X.env := by rfl)
    (hs2 : (backTo pos (starEach [l2] X.env)).any (·.1) = false := by rfl) :
    PI X (.Tuple elts k tpos) (.Call (.Name "zip" p) [l, l2] [] pos) (iZip K ta) := by
  subst hK
  intro pins s σ H R I h
  refine Call_ (ld_blt I hg hm PyProof.Rows.boot_zip (PyProof.Rows.callWith_type1 (thn (ha pos pins s σ H _ I h) fun us s1 ⟨vs, H1, I1, r1, q1⟩ => ?_) hs hs2))
  obtain ⟨a, b, rfl, ⟨xs, hq⟩, ⟨ys, hq2⟩, q⟩ := q1
  cases r1 with
  | cons ra rr =>
    cases ra
    obtain ⟨u, rfl, ru⟩ := vals1 rr
    cases ru
    obtain ⟨its, rv, p, hz⟩ := I1.list hq
    obtain ⟨its2, rv2, p2, hz2⟩ := I1.list hq2
    have la : a < s1.heap.objs.size := by obtain ⟨o, e, _⟩ := p.isList; exact Heap.lt_size e
    have lb : b < s1.heap.objs.size := by obtain ⟨o, e, _⟩ := p2.isList; exact Heap.lt_size e
    refine call_zip_2 p.isList p2.isList fun h' zz ti to i1 i2 hsz kp => ?_
    refine wpAny_pyIter_zip zz ?_
    refine ⟨s1.heap.objs.size + 4, [s1.heap.objs.size + 4, s1.heap.objs.size + 2, s1.heap.objs.size + 3, s1.heap.objs.size, s1.heap.objs.size + 1], _, _, H1, rfl, I1.kept (t' := s1.toks) kp, turn_zip a b _ _ _ _ _ (zip_apart _ a b la lb), ⟨zz, ti, ⟨_, _, to⟩, i1, i2⟩, fun c hc => ?_, q⟩
    have hc' : s1.heap.objs.size ≤ c := by
      simp only [List.mem_cons, List.not_mem_nil, or_false] at hc
      rcases hc with rfl | rfl | rfl | rfl | rfl
      · exact Nat.le_add_right _ _
      · exact Nat.le_add_right _ _
      · exact Nat.le_add_right _ _
      · exact Nat.le_refl _
      · exact Nat.le_add_right _ _
    exact I1.fpOk hc' (I1.hok.fresh hc')
/-! ### xs.count(k) of a list of ints -/
section
variable {X : Cx}
end
end L2

set_option Elab.async false
set_option linter.all false
set_option maxRecDepth 100000
set_option maxHeartbeats 4000000
namespace L2
open PySem PySem.Spec PyProof.Rows
section
variable {P : Program} {w : World} {A : Around} {E : Value → Shared → Prop} {s : Shared}
end
end L2

set_option Elab.async false
set_option linter.all false
set_option maxRecDepth 100000
set_option maxHeartbeats 1000000
namespace L2
open PySem PySem.Spec PySem.W PyProof.Rows PySem.Builtin PySem.Builtin.ObjectAttr PySem.Builtin.Getset_descriptor


section
variable {prog : Program} {w : World} {A : Around} {E : Value → Shared → Prop} {s : Shared} {K : Frag} {x C : Addr}
end
end L2

set_option Elab.async false
set_option linter.all false
set_option maxRecDepth 100000
set_option maxHeartbeats 1000000
namespace L2
open PySem PySem.Spec PyProof.Rows



section
variable {X : Cx} {pins : List (Addr × Obj)} {σ : St} {H : Hp} {s : Shared}
end
end L2

set_option Elab.async false
set_option linter.all false
set_option maxRecDepth 100000
set_option maxHeartbeats 1000000
namespace L2
open PySem PySem.Spec PyProof.Rows


section
variable {X : Cx}
end

section
variable {P : Program} {w : World} {K : PySem.W.Frag} {mg : Str → Option Value} {base : Heap}
end
end L2

set_option Elab.async false
set_option linter.all false
set_option maxRecDepth 100000
set_option maxHeartbeats 1000000
namespace L2
open PySem PySem.Spec PyProof.Rows

section
variable {X : Cx} {pins : List (Addr × Obj)} {σ : St} {H : Hp} {s : Shared}
end
end L2

set_option Elab.async false
set_option linter.all false
set_option maxRecDepth 100000
set_option maxHeartbeats 1000000
namespace L2
open PySem PySem.Spec PyProof.Rows
section
variable {X : Cx} {CX : CXT} {k : Nat} {f : Addr} {fd : FuncData} {ps : List Str} {sp : Sp} {E : XK} {x : Str} {p pos : Pos} {e : Expr} {es : List Expr} {t : TA} {pins : List (Addr × Obj)} {σ : St} {H : Hp} {s : Shared} {Q : VK} {EE : Value → Shared → Prop}
end
section
variable {X : Cx} {x y g n : Str} {i j m k : Nat} {ps : List Str} {sp : Sp} {p py pos epos np hpos tpos : Pos} {e : Expr} {es : List Expr} {t : TA} {th : TS} {G : Addr} {b0 : Stmt} {suite : List Stmt}
end
end L2

set_option Elab.async false
set_option linter.all false
set_option maxRecDepth 100000
set_option maxHeartbeats 1000000
namespace L2
open PySem PySem.Spec PyProof.Rows
/-! ### the text's own exception classes: all under GarthError, this one under ValueError -/

section
variable {X : Cx}
end
end L2

set_option Elab.async false
set_option linter.all false
set_option maxRecDepth 100000
set_option maxHeartbeats 1000000
namespace L2
open PySem PySem.Spec PyProof.Rows
section
variable {X : Cx}
end
end L2

set_option Elab.async false
set_option linter.all false
set_option maxRecDepth 100000
set_option maxHeartbeats 1000000
namespace L2
open PySem PySem.Spec PyProof.Rows
end L2

set_option Elab.async false
set_option linter.all false
set_option maxRecDepth 100000
set_option maxHeartbeats 1000000
namespace L2
open PySem PySem.Spec PyProof.Rows
section
variable {X : Cx}
end
end L2

set_option Elab.async false
set_option linter.all false
set_option maxRecDepth 100000
set_option maxHeartbeats 1000000
namespace L2
open PySem PySem.Spec PyProof.Rows
section
variable {X : Cx}
end
end L2

set_option Elab.async false
set_option linter.all false
set_option maxRecDepth 100000
set_option maxHeartbeats 1000000
namespace L2
open PySem PySem.Spec PyProof.Rows
/-! ### walking a dict: while it is walked its object is known (frz) -/
section
variable {X : Cx} {pins : List (Addr × Obj)} {σ : St} {H : Hp} {s : Shared}
end
end L2

set_option Elab.async false
set_option linter.all false
set_option maxRecDepth 100000
set_option maxHeartbeats 1000000
namespace L2
open PySem PySem.Spec PyProof.Rows
/-! ### a comprehension over a dict (frozen while it is walked) -/
/-! ### len(set(xs)) of a list of ints -/
end L2

set_option Elab.async false
set_option linter.all false
namespace L2
open PySem PyProof.Rows
/-! ### sorting lists of ints of any length: gallop, merges, the stack of runs -/
abbrev SM := StateT SortSt Sem
def kq (p : Keyed) : Int := numOf p.1
def IK (p : Keyed) : Prop := ∃ n t, p.1 = .int n t
def gallop' : Bool → Keyed → Array Keyed → Nat → Nat → Nat → SM (Option Nat) := sortPriv% PySem.Builtin.gallop
def setMinGallop' : Nat → SM Unit := sortPriv% PySem.Builtin.setMinGallop
def mergeLo' : Array Keyed → Array Keyed → SM (Array Keyed) := sortPriv% PySem.Builtin.mergeLo
def mergeHi' : Array Keyed → Array Keyed → SM (Array Keyed) := sortPriv% PySem.Builtin.mergeHi
def bey (left : Bool) (key : Keyed) (arr : Array Keyed) (base i : Nat) : SM (Option Bool) := do
  let v ← elem' arr (base + i)
  if left then lt' v key else return (← lt' key v).map (!·)
theorem setMinGallop'_eq (g : Nat) : setMinGallop' g = modify fun s => SortSt.mk' (kindOf s) (arrOf s) (pendingOf s) g (failedOf s) := rfl
section
variable {prog : Program} {w : World} {A : Around} {E : Value → Shared → Prop} {s : Shared}
theorem wpS_ltp {st : SortSt} {x y : Keyed} {Q : Option Bool → SortSt → Prop} (hk : kindOf st = oneType') (hx : IK x) (hy : IK y) (h : Q (some (decide (kq x < kq y))) st) : wpS (model prog w) A E s (lt' x y) Q st := by
  obtain ⟨a, t, ea⟩ := hx
  obtain ⟨b, u, eb⟩ := hy
  have e1 : kq x = a := by unfold kq; rw [ea]; rfl
  have e2 : kq y = b := by unfold kq; rw [eb]; rfl
  rw [lt'_eq]
  refine wpS_bind (wpS_get ?_)
  rw [hk, keyLt'_oneType, ea, eb]
  refine wpS_bind (wpS_lift (wpAny_attempt (oneLt_int ⟨rfl, ?_⟩)))
  rw [e1, e2] at h
  exact wpS_pure h
theorem wpS_elem {st : SortSt} {arr : Array Keyed} {i : Nat} {x : Keyed} {Q : Keyed → SortSt → Prop} (h : arr[i]? = some x) (hq : Q x st) : wpS (model prog w) A E s (elem' arr i) Q st := by
  rw [elem'_eq, h]; exact wpS_pure hq
def bsTail (beyond : Nat → SM (Option Bool)) (n lo₀ hi₀ : Nat) : SM (Option Nat) := do
  let mut lo := lo₀
  let mut hi := hi₀
  for _ in [0:n] do
    if lo ≥ hi then break
    let m := lo + (hi - lo) / 2
    let some more ← beyond m | return none
    if more then lo := m + 1 else hi := m
  return some hi
theorem wpS_bs {beyond : Nat → SM (Option Bool)} {n lo hi : Nat} {st : SortSt} {pr : Nat → Bool} {Q : Option Nat → SortSt → Prop} (hb : ∀ i (Q' : Option Bool → SortSt → Prop), i < n → Q' (some (pr i)) st → wpS (model prog w) A E s (beyond i) Q' st)
    (hm : ∀ i j, i ≤ j → j < n → pr j = true → pr i = true) (h1 : lo ≤ hi) (h2 : hi ≤ n) (hl : ∀ i, i < lo → pr i = true) (hr : ∀ i, hi ≤ i → i < n → pr i = false)
    (h : ∀ k, k ≤ n → (∀ i, i < k → pr i = true) → (∀ i, k ≤ i → i < n → pr i = false) → Q (some k) st) : wpS (model prog w) A E s (bsTail beyond n lo hi) Q st := by
  unfold bsTail
  refine wpS_bind (wpS_mono (wpS_forRange (I := fun x c st' => st' = st ∧ ∃ l r, c = (none, l, r) ∧ l ≤ r ∧ r ≤ n ∧ r - l ≤ n - x ∧ (∀ i, i < l → pr i = true) ∧ (∀ i, r ≤ i → i < n → pr i = false))
    (Q := fun c st' => st' = st ∧ ∃ k, c = (none, k, k) ∧ k ≤ n ∧ (∀ i, i < k → pr i = true) ∧ (∀ i, k ≤ i → i < n → pr i = false)) ?step ?fin ?init) ?post)
  case init => exact ⟨rfl, lo, hi, rfl, h1, h2, by omega, hl, hr⟩
  case fin =>
    rintro c st' ⟨rfl, l, r, rfl, a1, a2, a3, a4, a5⟩
    have : l = r := by (clear hm h1 h2 hl hr hb a4 a5 h a2; omega)
    subst this
    exact ⟨rfl, l, rfl, a2, a4, a5⟩
  case post =>
    rintro c st' ⟨rfl, k, rfl, a1, a2, a3⟩
    exact wpS_pure (h k a1 a2 a3)
  case step =>
    rintro x c st' _ hx ⟨rfl, l, r, rfl, a1, a2, a3, a4, a5⟩
    dsimp only
    by_cases hge : l ≥ r
    · rw [if_pos hge]
      have : l = r := by (clear hm h1 h2 hl hr hx hb a2 a3 a4 a5 h; omega)
      subst this
      exact wpS_pure ⟨rfl, l, rfl, a2, a4, a5⟩
    · rw [if_neg hge]
      refine wpS_bind (hb _ _ (by (clear hm h1 h2 hl hr hx hb h a1 a4 a5 a3; omega)) ?_)
      dsimp only
      cases e : pr (l + (r - l) / 2) with
      | true =>
        rw [if_pos rfl]
        exact wpS_pure ⟨rfl, _, _, rfl, by (clear hm h1 h2 hl hr hx hb h a1 a2 a3 a4 e a5; omega), by omega, by omega, fun i hi => hm i _ (by (clear hm h1 h2 hl hr hx hb h a1 a2 a3 a4 a5 hge e; omega)) (by (clear hm h1 h2 hl hr hx hb h a3 a4 e hi a1 a5; omega)) e, a5⟩
      | false =>
        rw [if_neg (by simp)]
        refine wpS_pure ⟨rfl, _, _, rfl, by (clear hm h1 h2 hl hr hx hb h a1 a2 a3 a4 a5 hge e; omega), by (clear hm h1 h2 hl hr hx hb h a5 hge e a3 a4; omega), by omega, a4, fun i h3 h4 => ?_⟩
        cases e2 : pr i with
        | false => rfl
        | true => rw [hm _ i h3 h4 e2] at e; cases e
theorem wpS_gal {left : Bool} {key : Keyed} {arr : Array Keyed} {base n hint : Nat} {st : SortSt} {pr : Nat → Bool} {Q : Option Nat → SortSt → Prop} (hb : ∀ i (Q' : Option Bool → SortSt → Prop), i < n → Q' (some (pr i)) st → wpS (model prog w) A E s (bey left key arr base i) Q' st)
    (hm : ∀ i j, i ≤ j → j < n → pr j = true → pr i = true) (hh : hint < n) (h : ∀ k, k ≤ n → (∀ i, i < k → pr i = true) → (∀ i, k ≤ i → i < n → pr i = false) → Q (some k) st) :
    wpS (model prog w) A E s (gallop' left key arr base n hint) Q st := by
  have down : ∀ i j, i ≤ j → j < n → pr i = false → pr j = false := fun i j h1 h2 h3 => by
    cases e : pr j with
    | false => rfl
    | true => rw [hm i j h1 h2 e] at h3; cases h3
  unfold gallop'
  refine wpS_bind (hb hint _ hh ?_)
  dsimp only
  cases e0 : pr hint with
  | true =>
    rw [if_pos rfl]
    refine wpS_bind (wpS_mono (wpS_forRange (I := fun x c st' => st' = st ∧ ∃ la o, c = (none, la, o) ∧ la < o ∧ x + 1 ≤ o ∧ hint + la < n ∧ pr (hint + la) = true)
      (Q := fun c st' => st' = st ∧ ∃ la o, c = (none, la, o) ∧ la < o ∧ hint + la < n ∧ pr (hint + la) = true ∧ (n - hint ≤ o ∨ pr (hint + o) = false)) ?step ?fin ?init) ?post)
    case init => exact ⟨rfl, 0, 1, rfl, by omega, by omega, by omega, e0⟩
    case fin =>
      rintro c st' ⟨rfl, la, o, rfl, a1, a2, a3, a4⟩
      exact ⟨rfl, la, o, rfl, a1, a3, a4, .inl (by (clear hm hh down e0 hb a3 a4 h a1; omega))⟩
    case post =>
      rintro c st' ⟨rfl, la, o, rfl, a1, a3, a4, a5⟩
      show wpS _ _ _ _ (bsTail (bey left key arr base) n (hint + la + 1) (hint + min o (n - hint))) _ _
      refine wpS_bs hb hm (by omega) (by omega) (fun i hi => hm i _ (by omega) a3 a4) (fun i h1 h2 => ?_) h
      rcases a5 with a5 | a5
      · omega
      · by_cases ho : o ≤ n - hint
        · exact down (hint + o) i (by omega) h2 a5
        · omega
    case step =>
      rintro x c st' _ hx ⟨rfl, la, o, rfl, a1, a2, a3, a4⟩
      dsimp only
      by_cases hge : o ≥ n - hint
      · rw [if_pos hge]; exact wpS_pure ⟨rfl, la, o, rfl, a1, a3, a4, .inl hge⟩
      · rw [if_neg hge]
        refine wpS_bind (hb _ _ (by (clear hm hh down e0 hx hb h a1 a2 a3 a4; omega)) ?_)
        dsimp only
        cases e : pr (hint + o) with
        | false => exact wpS_pure ⟨rfl, la, o, rfl, a1, a3, a4, .inr e⟩
        | true => exact wpS_pure ⟨rfl, o, 2 * o + 1, rfl, by omega, by (clear hm hh down e0 hx hb h hge e a3 a4 a1; omega), by (clear hm hh down e0 hx hb h a1 a2 a3 a4 e; omega), e⟩
  | false =>
    rw [if_neg (by simp)]
    refine wpS_bind (wpS_mono (wpS_forRange (I := fun x c st' => st' = st ∧ ∃ la o, c = (none, la, o) ∧ la < o ∧ x + 1 ≤ o ∧ la ≤ hint ∧ pr (hint - la) = false)
      (Q := fun c st' => st' = st ∧ ∃ la o, c = (none, la, o) ∧ la < o ∧ la ≤ hint ∧ pr (hint - la) = false ∧ (hint + 1 ≤ o ∨ (o ≤ hint ∧ pr (hint - o) = true))) ?step2 ?fin2 ?init2) ?post2)
    case init2 => exact ⟨rfl, 0, 1, rfl, by omega, by omega, by omega, e0⟩
    case fin2 =>
      rintro c st' ⟨rfl, la, o, rfl, a1, a2, a3, a4⟩
      exact ⟨rfl, la, o, rfl, a1, a3, a4, .inl (by omega)⟩
    case post2 =>
      rintro c st' ⟨rfl, la, o, rfl, a1, a3, a4, a5⟩
      show wpS _ _ _ _ (bsTail (bey left key arr base) n (hint + 1 - min o (hint + 1)) (hint - la)) _ _
      refine wpS_bs hb hm (by omega) (by omega) (fun i hi => ?_) (fun i h1 h2 => down (hint - la) i (by omega) h2 a4) h
      rcases a5 with a5 | ⟨a5, a6⟩
      · (clear hm hh down e0 hb h a1 a3 a4; omega)
      · exact hm i (hint - o) (by omega) (by (clear a1 a3 a4 hi a5 a6 e0 hb h down hm; omega)) a6
    case step2 =>
      rintro x c st' _ hx ⟨rfl, la, o, rfl, a1, a2, a3, a4⟩
      dsimp only
      by_cases hge : o ≥ hint + 1
      · rw [if_pos hge]; exact wpS_pure ⟨rfl, la, o, rfl, a1, a3, a4, .inl hge⟩
      · rw [if_neg hge]
        refine wpS_bind (hb _ _ (by (clear h a1 a2 a3 a4 hge e0 hx hb down hm; omega)) ?_)
        dsimp only
        cases e : pr (hint - o) with
        | true => exact wpS_pure ⟨rfl, la, o, rfl, a1, a3, a4, .inr ⟨by omega, e⟩⟩
        | false => exact wpS_pure ⟨rfl, o, 2 * o + 1, rfl, by omega, by (clear hm hh down e0 hx hb h hge e a3 a4 a1; omega), by omega, e⟩
/-- gallop over a part of an array that rises -/
theorem wpS_gallop {left : Bool} {key : Keyed} {arr : Array Keyed} {base n hint : Nat} {st : SortSt} {Q : Option Nat → SortSt → Prop} (hk : kindOf st = oneType') (hkey : IK key) (hint_lt : hint < n) (hsz : base + n ≤ arr.size) (hik : ∀ x ∈ arr.toList, IK x)
    (hs : ∀ i j, i ≤ j → j < n → K arr (base + i) ≤ K arr (base + j))
    (h : ∀ k, k ≤ n → (∀ i, i < k → if left = true then K arr (base + i) < kq key else K arr (base + i) ≤ kq key) → (∀ i, k ≤ i → i < n → if left = true then kq key ≤ K arr (base + i) else kq key < K arr (base + i)) → Q (some k) st) :
    wpS (model prog w) A E s (gallop' left key arr base n hint) Q st := by
  have at_ : ∀ i, i < n → ∃ x, arr[base + i]? = some x ∧ IK x ∧ kq x = K arr (base + i) := fun i hi => by
    have e : arr[base + i]? = some arr[base + i] := getElem?_pos _ _ (by omega)
    exact ⟨_, e, hik _ (by simp), by unfold K kq; rw [e]⟩
  refine wpS_gal (pr := fun i => if left = true then decide (K arr (base + i) < kq key) else !decide (kq key < K arr (base + i))) (fun i Q' hi hq => ?_) (fun i j hij hj => ?_) hint_lt fun k hk2 h1 h2 => h k hk2 (fun i hi => ?_) fun i hi hn => ?_
  · obtain ⟨x, e1, e2, e3⟩ := at_ i hi
    unfold bey
    refine wpS_bind (wpS_elem e1 ?_)
    cases left with
    | true =>
      rw [if_pos rfl]
      rw [if_pos rfl] at hq
      refine wpS_ltp hk e2 hkey ?_
      rw [e3]; exact hq
    | false =>
      rw [if_neg (by simp)]
      rw [if_neg (by simp)] at hq
      refine wpS_bind (wpS_ltp hk hkey e2 ?_)
      rw [e3]; exact wpS_pure hq
  · have := hs i j hij hj
    cases left <;> simp <;> omega
  · have := h1 i hi
    cases left <;> simp at this ⊢ <;> omega
  · have := h2 i hi hn
    cases left <;> simp at this ⊢ <;> omega
end
end L2

set_option Elab.async false
set_option linter.all false
namespace L2
open PySem PyProof.Rows
/-! the mathematics of merging -/
abbrev LE (p q : Keyed) : Prop := kq p ≤ kq q
abbrev Srt (xs : List Keyed) : Prop := xs.Pairwise LE
structure MInv (A B out : List Keyed) (ia ib : Nat) : Prop where
  perm : out.Perm (A.take ia ++ B.take ib)
  srt : Srt out
  below : ∀ p ∈ out, (∀ q ∈ A.drop ia, LE p q) ∧ ∀ q ∈ B.drop ib, LE p q
theorem take_more {α : Type} (A : List α) (i k : Nat) : A.take (i + k) = A.take i ++ (A.drop i).take k := by rw [List.take_add]
theorem mem_cut {α : Type} {A : List α} {i k : Nat} {p : α} (h : p ∈ (A.drop i).take k) : ∃ j, j < k ∧ A[i + j]? = some p := by
  obtain ⟨j, hj⟩ := List.getElem?_of_mem h
  rw [List.getElem?_take] at hj
  split at hj
  · rename_i hlt
    rw [List.getElem?_drop] at hj
    exact ⟨j, hlt, hj⟩
  · cases hj
theorem mem_tail {α : Type} {A : List α} {i : Nat} {p : α} (h : p ∈ A.drop i) : ∃ j, A[i + j]? = some p := by
  obtain ⟨j, hj⟩ := List.getElem?_of_mem h
  rw [List.getElem?_drop] at hj
  exact ⟨j, hj⟩
theorem srt_at {A : List Keyed} (h : Srt A) {i j : Nat} {p q : Keyed} (hij : i ≤ j) (h1 : A[i]? = some p) (h2 : A[j]? = some q) : LE p q := by
  obtain ⟨l1, e1⟩ := List.getElem?_eq_some_iff.mp h1
  obtain ⟨l2, e2⟩ := List.getElem?_eq_some_iff.mp h2
  rcases Nat.lt_or_ge i j with z | z
  · have := List.pairwise_iff_getElem.mp h i j l1 l2 z
    rw [e1, e2] at this; exact this
  · have : i = j := by omega
    subst this
    rw [h1] at h2; cases h2; exact Int.le_refl _
theorem srt_cut {A : List Keyed} (h : Srt A) (i k : Nat) : Srt ((A.drop i).take k) := (h.sublist (List.drop_sublist _ _)).sublist (List.take_sublist _ _)
theorem MInv.addA {A B out : List Keyed} {ia ib : Nat} (m : MInv A B out ia ib) (hA : Srt A) (k : Nat) (h : ∀ p ∈ (A.drop ia).take k, ∀ q ∈ B.drop ib, LE p q) : MInv A B (out ++ (A.drop ia).take k) (ia + k) ib := by
  refine ⟨?_, ?_, fun p hp => ?_⟩
  · rw [take_more]
    have h1 := m.perm.append_right ((A.drop ia).take k)
    refine h1.trans ?_
    rw [List.append_assoc, List.append_assoc]
    exact List.Perm.append_left _ List.perm_append_comm
  · exact List.pairwise_append.mpr ⟨m.srt, srt_cut hA _ _, fun p hp q hq => (m.below p hp).1 q (List.mem_of_mem_take hq)⟩
  · rcases List.mem_append.mp hp with hp | hp
    · refine ⟨fun q hq => (m.below p hp).1 q ?_, (m.below p hp).2⟩
      rw [← List.drop_drop] at hq
      exact List.mem_of_mem_drop hq
    · refine ⟨fun q hq => ?_, h p hp⟩
      obtain ⟨j, hj, e1⟩ := mem_cut hp
      obtain ⟨j2, e2⟩ := mem_tail hq
      exact srt_at hA (by omega) e1 e2
theorem MInv.swap {A B out : List Keyed} {ia ib : Nat} (m : MInv A B out ia ib) : MInv B A out ib ia := ⟨m.perm.trans List.perm_append_comm, m.srt, fun p hp => ⟨(m.below p hp).2, (m.below p hp).1⟩⟩
theorem MInv.addB {A B out : List Keyed} {ia ib : Nat} (m : MInv A B out ia ib) (hB : Srt B) (k : Nat) (h : ∀ p ∈ (B.drop ib).take k, ∀ q ∈ A.drop ia, LE p q) : MInv A B (out ++ (B.drop ib).take k) ia (ib + k) := (m.swap.addA hB k h).swap
theorem one_cut {α : Type} {A : List α} {i : Nat} {x : α} (h : A[i]? = some x) : (A.drop i).take 1 = [x] := by
  obtain ⟨l, e⟩ := List.getElem?_eq_some_iff.mp h
  rw [List.drop_eq_getElem_cons l, e]; rfl
theorem MInv.pushA {A B out : List Keyed} {ia ib : Nat} {x : Keyed} (m : MInv A B out ia ib) (hA : Srt A) (hx : A[ia]? = some x) (h : ∀ q ∈ B.drop ib, LE x q) : MInv A B (out ++ [x]) (ia + 1) ib := by
  have := m.addA hA 1 (by rw [one_cut hx]; intro p hp; rw [List.mem_singleton.mp hp]; exact h)
  rwa [one_cut hx] at this
theorem MInv.pushB {A B out : List Keyed} {ia ib : Nat} {x : Keyed} (m : MInv A B out ia ib) (hB : Srt B) (hx : B[ib]? = some x) (h : ∀ q ∈ A.drop ia, LE x q) : MInv A B (out ++ [x]) ia (ib + 1) := (m.swap.pushA hB hx h).swap
/-- what is left of A goes behind, B is through -/
theorem MInv.endA {A B out : List Keyed} {ia ib : Nat} (m : MInv A B out ia ib) (hA : Srt A) (hb : B.length ≤ ib) : (out ++ A.drop ia).Perm (A ++ B) ∧ Srt (out ++ A.drop ia) := by
  refine ⟨?_, List.pairwise_append.mpr ⟨m.srt, hA.sublist (List.drop_sublist _ _), fun p hp q hq => (m.below p hp).1 q hq⟩⟩
  have h1 := m.perm.append_right (A.drop ia)
  rw [List.take_of_length_le hb] at h1
  refine h1.trans ?_
  rw [List.append_assoc]
  refine (List.Perm.append_left _ List.perm_append_comm).trans ?_
  rw [← List.append_assoc, List.take_append_drop]
theorem MInv.endB {A B out : List Keyed} {ia ib : Nat} (m : MInv A B out ia ib) (hB : Srt B) (ha : A.length ≤ ia) : (out ++ B.drop ib).Perm (A ++ B) ∧ Srt (out ++ B.drop ib) := by
  obtain ⟨h1, h2⟩ := m.swap.endA hB ha
  exact ⟨h1.trans List.perm_append_comm, h2⟩
/-- what is left of B, then of A, all of which are above B -/
theorem MInv.endBA {A B out : List Keyed} {ia ib : Nat} (m : MInv A B out ia ib) (hA : Srt A) (hB : Srt B) (h : ∀ p ∈ B.drop ib, ∀ q ∈ A.drop ia, LE p q) : (out ++ B.drop ib ++ A.drop ia).Perm (A ++ B) ∧ Srt (out ++ B.drop ib ++ A.drop ia) := by
  have m2 := m.addB hB (B.length - ib) (fun p hp q hq => h p (List.mem_of_mem_take hp) q hq)
  rw [List.take_of_length_le (by simp)] at m2
  exact m2.endA hA (by omega)
structure StEq (st st' : SortSt) : Prop where
  kind : kindOf st' = kindOf st
  arr : arrOf st' = arrOf st
  pend : pendingOf st' = pendingOf st
  fail : failedOf st' = failedOf st
theorem StEq.refl (st : SortSt) : StEq st st := ⟨rfl, rfl, rfl, rfl⟩
theorem K_of {arr : Array Keyed} {i : Nat} {x : Keyed} (h : arr.toList[i]? = some x) : K arr i = kq x := by
  unfold K kq; rw [← Array.getElem?_toList, h]
theorem K_le {arr : Array Keyed} (h : Srt arr.toList) {i j : Nat} (hij : i ≤ j) (hj : j < arr.size) : K arr i ≤ K arr j := by
  obtain ⟨x, e1⟩ : ∃ x, arr.toList[i]? = some x := ⟨arr[i]'(by omega), by simp⟩
  obtain ⟨y, e2⟩ : ∃ x, arr.toList[j]? = some x := ⟨arr[j], by simp⟩
  rw [K_of e1, K_of e2]
  exact srt_at h hij e1 e2
abbrev T2 := Option (Array Keyed) × Array Keyed × Nat × Nat × Nat × Nat × Nat
def loC (a b : Array Keyed) (mg ac bc : Nat) (out : Array Keyed) (ia ib : Nat) : SM (ForInStep T2) := do
  let x ← elem' a ia
  let out := out.push x
  let ia := ia + 1
  if ia + 1 == a.size then return .done (some (out ++ b.extract ib b.size ++ a.extract ia a.size), out, ia, ib, mg, ac, bc)
  if ac < 7 && bc < 7 then return .done (none, out, ia, ib, mg, ac, bc)
  return .yield (none, out, ia, ib, mg, ac, bc)
def loB (a b : Array Keyed) (mg ac bc : Nat) (out : Array Keyed) (ia ib : Nat) : SM (ForInStep T2) := do
  let x ← elem' b ib
  let out := out.push x
  let ib := ib + 1
  if ib == b.size then return .done (some (out ++ a.extract ia a.size ++ b.extract ib b.size), out, ia, ib, mg, ac, bc)
  let y ← elem' a ia
  let some k ← gallop' true y b ib (b.size - ib) 0 | return .done (some (out ++ a.extract ia a.size ++ b.extract ib b.size), out, ia, ib, mg, ac, bc)
  if k > 0 then
    let out := out ++ b.extract ib (ib + k)
    let ib := ib + k
    if ib == b.size then return .done (some (out ++ a.extract ia a.size ++ b.extract ib b.size), out, ia, ib, mg, ac, k)
    else loC a b mg ac k out ia ib
  else loC a b mg ac k out ia ib
def loA (a b : Array Keyed) (mg ac bc : Nat) (out : Array Keyed) (ia ib : Nat) : SM (ForInStep T2) := do
  setMinGallop' mg
  let y ← elem' b ib
  let some k ← gallop' false y a ia (a.size - ia) 0 | return .done (some (out ++ a.extract ia a.size ++ b.extract ib b.size), out, ia, ib, mg, ac, bc)
  if k > 0 then
    let out := out ++ a.extract ia (ia + k)
    let ia := ia + k
    if ia + 1 == a.size then return .done (some (out ++ b.extract ib b.size ++ a.extract ia a.size), out, ia, ib, mg, k, bc)
    else if ia == a.size then return .done (some (out ++ a.extract ia a.size ++ b.extract ib b.size), out, ia, ib, mg, k, bc)
    else loB a b mg k bc out ia ib
  else loB a b mg k bc out ia ib
section
variable {prog : Program} {w : World} {A : Around} {E : Value → Shared → Prop} {s : Shared}
/-- what is asked of the two parts -/
structure MPre (a b : Array Keyed) : Prop where
  sa : Srt a.toList
  sb : Srt b.toList
  ka : ∀ x ∈ a.toList, IK x
  kb : ∀ x ∈ b.toList, IK x
  na : 1 ≤ a.size
  nb : 1 ≤ b.size
  fst : ∀ x ∈ a.toList, ∀ y, b.toList[0]? = some y → LE y x
  lst : ∀ y ∈ b.toList, ∀ x, a.toList[a.size - 1]? = some x → LE y x
def MEnd (a b : Array Keyed) (st : SortSt) (out : Array Keyed) (st' : SortSt) : Prop := out.toList.Perm (a.toList ++ b.toList) ∧ Srt out.toList ∧ StEq st st'
theorem at_arr {arr : Array Keyed} {i : Nat} (h : i < arr.size) : ∃ x, arr[i]? = some x ∧ arr.toList[i]? = some x := ⟨arr[i], by simp, by simp⟩
theorem wpS_mergeLo {a b : Array Keyed} {st : SortSt} {Q : Array Keyed → SortSt → Prop} (hk : kindOf st = oneType') (p : MPre a b) (h : ∀ out st', MEnd a b st out st' → Q out st') : wpS (model prog w) A E s (mergeLo' a b) Q st := by
  have ext : ∀ (x : Array Keyed) (i : Nat), (x.extract i x.size).toList = x.toList.drop i := fun x i => by rw [Array.toList_extract, List.extract_eq_take_drop, List.take_of_length_le (by simp)]
  have ext2 : ∀ (x : Array Keyed) (i k : Nat), (x.extract i (i + k)).toList = (x.toList.drop i).take k := fun x i k => by simp [List.extract_eq_take_drop]
  -- the three ends
  have dB : ∀ (out : Array Keyed) (ia ib : Nat) (st' : SortSt), MInv a.toList b.toList out.toList ia ib → ib = b.size → StEq st st' → Q (out ++ a.extract ia a.size ++ b.extract ib b.size) st' := fun out ia ib st' m e q => by
    refine h _ _ ⟨?_, ?_, q⟩ <;> rw [Array.toList_append, Array.toList_append, ext, ext, List.drop_of_length_le (l := b.toList) (by simp [e]), List.append_nil]
    · exact (m.endA p.sa (by simp [e])).1
    · exact (m.endA p.sa (by simp [e])).2
  have dA : ∀ (out : Array Keyed) (ia ib : Nat) (st' : SortSt), MInv a.toList b.toList out.toList ia ib → ia = a.size → StEq st st' → Q (out ++ a.extract ia a.size ++ b.extract ib b.size) st' := fun out ia ib st' m e q => by
    refine h _ _ ⟨?_, ?_, q⟩ <;> rw [Array.toList_append, Array.toList_append, ext, ext, List.drop_of_length_le (l := a.toList) (by simp [e]), List.append_nil]
    · exact (m.endB p.sb (by simp [e])).1
    · exact (m.endB p.sb (by simp [e])).2
  have dL : ∀ (out : Array Keyed) (ia ib : Nat) (st' : SortSt), MInv a.toList b.toList out.toList ia ib → ia + 1 = a.size → StEq st st' → Q (out ++ b.extract ib b.size ++ a.extract ia a.size) st' := fun out ia ib st' m e q => by
    have h4 : ∀ x ∈ b.toList.drop ib, ∀ y ∈ a.toList.drop ia, LE x y := fun x hx y hy => by
      obtain ⟨j, hj⟩ := mem_tail hy
      have hjl := (List.getElem?_eq_some_iff.mp hj).1
      rw [Array.length_toList] at hjl
      have : j = 0 := by omega
      subst this
      exact p.lst x (List.mem_of_mem_drop hx) y (by rw [← e]; simpa using hj)
    refine h _ _ ⟨?_, ?_, q⟩ <;> rw [Array.toList_append, Array.toList_append, ext, ext]
    · exact (m.endBA p.sa p.sb h4).1
    · exact (m.endBA p.sa p.sb h4).2
  obtain ⟨b0, eb0, eb0'⟩ := at_arr (arr := b) (i := 0) (by have := p.nb; omega)
  have hna := p.na
  have hnb := p.nb
  have m0 : MInv a.toList b.toList (#[b0] : Array Keyed).toList 0 1 := by
    refine ⟨?_, by simp, fun x hx => ?_⟩
    · have := one_cut (i := 0) eb0'
      rw [List.drop_zero] at this
      rw [this]; simp
    · have hx : x = b0 := by simpa using hx
      subst hx
      refine ⟨fun q hq => p.fst q (by simpa using hq) _ eb0', fun q hq => ?_⟩
      obtain ⟨j, hj⟩ := mem_tail hq
      exact srt_at p.sb (Nat.zero_le _) eb0' hj
  -- the second inner loop's turn
  have stepC : ∀ (mg ac bc : Nat) (out : Array Keyed) (ia ib n0 : Nat) (st' : SortSt) (Q2 : ForInStep T2 → SortSt → Prop), MInv a.toList b.toList out.toList ia ib → ia + 1 < a.size → ib < b.size → (∀ x, a.toList[ia]? = some x → ∀ q ∈ b.toList.drop ib, LE x q) → n0 ≤ ia + ib → StEq st st' →
      (∀ r t, Q r st' → Q2 (.done (some r, t)) st') → (∀ (out : Array Keyed) (ia ib mg ac bc : Nat), MInv a.toList b.toList out.toList ia ib → ia + 1 < a.size → ib < b.size → n0 + 1 ≤ ia + ib → Q2 (.done (none, out, ia, ib, mg, ac, bc)) st' ∧ Q2 (.yield (none, out, ia, ib, mg, ac, bc)) st') →
      wpS (model prog w) A E s (loC a b mg ac bc out ia ib) Q2 st' := fun mg ac bc out ia ib n0 st' Q2 m h1 h2 hle hn e q1 q2 => by
    unfold loC
    obtain ⟨x, ex, ex'⟩ := at_arr (arr := a) (i := ia) (by omega)
    refine wpS_bind (wpS_elem ex ?_)
    have m2 : MInv a.toList b.toList (out.push x).toList (ia + 1) ib := by rw [Array.toList_push]; exact m.pushA p.sa ex' (hle x ex')
    dsimp only
    by_cases c : ia + 1 + 1 = a.size
    · rw [if_pos (by simpa using c)]
      exact wpS_pure (q1 _ _ (dL _ _ _ _ m2 c e))
    · rw [if_neg (by simpa using c)]
      obtain ⟨z1, z2⟩ := q2 _ _ _ mg ac bc m2 (by omega) h2 (by (clear h ext ext2 dB dA dL hna hnb q1 q2 c h1 h2 hle; omega))
      split
      · exact wpS_pure z1
      · exact wpS_pure z2
  have stepB : ∀ (mg ac bc : Nat) (out : Array Keyed) (ia ib n0 : Nat) (st' : SortSt) (Q2 : ForInStep T2 → SortSt → Prop), MInv a.toList b.toList out.toList ia ib → ia + 1 < a.size → ib < b.size → (∀ x, b.toList[ib]? = some x → ∀ q ∈ a.toList.drop ia, LE x q) → n0 ≤ ia + ib → StEq st st' →
      (∀ r t, Q r st' → Q2 (.done (some r, t)) st') → (∀ (out : Array Keyed) (ia ib mg ac bc : Nat), MInv a.toList b.toList out.toList ia ib → ia + 1 < a.size → ib < b.size → n0 + 1 ≤ ia + ib → Q2 (.done (none, out, ia, ib, mg, ac, bc)) st' ∧ Q2 (.yield (none, out, ia, ib, mg, ac, bc)) st') →
      wpS (model prog w) A E s (loB a b mg ac bc out ia ib) Q2 st' := fun mg ac bc out ia ib n0 st' Q2 m h1 h2 hle hn e q1 q2 => by
    unfold loB
    obtain ⟨x, ex, ex'⟩ := at_arr (arr := b) (i := ib) (by omega)
    refine wpS_bind (wpS_elem ex ?_)
    have m2 : MInv a.toList b.toList (out.push x).toList ia (ib + 1) := by rw [Array.toList_push]; exact m.pushB p.sb ex' (hle x ex')
    dsimp only
    by_cases c : ib + 1 = b.size
    · rw [if_pos (by simpa using c)]
      exact wpS_pure (q1 _ _ (dB _ _ _ _ m2 c e))
    · rw [if_neg (by simpa using c)]
      obtain ⟨y, ey, ey'⟩ := at_arr (arr := a) (i := ia) (by omega)
      refine wpS_bind (wpS_elem ey ?_)
      refine wpS_bind (wpS_gallop (e.kind.trans hk) (p.ka y (List.mem_of_getElem? ey')) (by (clear h ext ext2 dB dA dL hna hnb stepC h1 hn q1 hle q2; omega)) (by (clear h ext ext2 dB dA dL hna hnb hn q1 q2 c stepC h1 hle; omega)) p.kb (fun i j hij hj => K_le p.sb (by (clear h ext ext2 dB dA dL hna hnb stepC h1 h2 hle hn q1 hj q2 c; omega)) (by (clear h ext ext2 dB dA dL hna hnb stepC h1 h2 hle hn q1 q2 c hij; omega))) fun k hk2 g1 g2 => ?_)
      simp only [if_true] at g1 g2
      have m3 : MInv a.toList b.toList (out.push x ++ b.extract (ib + 1) (ib + 1 + k)).toList ia (ib + 1 + k) := by
        rw [Array.toList_append, ext2]
        refine m2.addB p.sb k fun u hu v hv => ?_
        obtain ⟨j, hj, e1⟩ := mem_cut hu
        obtain ⟨j2, e2⟩ := mem_tail hv
        have h3 := g1 j hj
        rw [K_of e1] at h3
        have h4 := srt_at p.sa (Nat.le_add_right ia j2) ey' e2
        unfold LE at h4 ⊢
        (clear h ext ext2 dB dA dL hna hnb stepC h1 h2 hle hn q1 q2 c hk2 g1 g2 hj; omega)
      have hl3 : ∀ u, a.toList[ia]? = some u → ∀ q ∈ b.toList.drop (ib + 1 + k), LE u q := fun u hu q hq => by
        rw [ey'] at hu; cases hu
        obtain ⟨j, hj⟩ := mem_tail hq
        have hjl := (List.getElem?_eq_some_iff.mp hj).1
        rw [Array.length_toList] at hjl
        have := g2 (k + j) (by (clear h ext ext2 dB dA dL hna hnb stepC h1 h2 hle hn q1 q2 c hk2 g1 g2 hjl; omega)) (by omega)
        rw [show ib + 1 + (k + j) = ib + 1 + k + j by (clear h ext ext2 dB dA dL hna hnb stepC h1 h2 hle hn q1 q2 c hk2 g1 g2 hjl this; omega), K_of hj] at this
        exact this
      dsimp only
      by_cases ck : k > 0
      · rw [if_pos ck]
        by_cases c2 : ib + 1 + k = b.size
        · rw [if_pos (by simpa using c2)]
          exact wpS_pure (q1 _ _ (dB _ _ _ _ m3 c2 e))
        · rw [if_neg (by simpa using c2)]
          exact stepC _ _ _ _ _ _ n0 _ _ m3 h1 (by omega) hl3 (by (clear h ext ext2 dB dA dL hna hnb stepC h1 h2 g1 g2 hl3 ck c2 q2 c hk2 q1 hle; omega)) e q1 q2
      · rw [if_neg ck]
        have k0 : k = 0 := by (clear h ext ext2 dB dA dL hna hnb stepC h1 h2 hle hn q1 q2 c hk2 g1 g2 hl3; omega)
        subst k0
        exact stepC _ _ _ _ _ _ n0 _ _ m2 h1 (by (clear h ext ext2 dB dA dL g2 hl3 ck hna hnb stepC hn q1 q2 hk2 g1 h1 hle; omega)) hl3 (by (clear h ext ext2 dB dA dL hna hnb stepC h1 h2 g1 g2 hl3 ck q2 c hk2 q1 hle; omega)) e q1 q2
  have stepA : ∀ (mg ac bc : Nat) (out : Array Keyed) (ia ib n0 : Nat) (st0 : SortSt) (Q2 : ForInStep T2 → SortSt → Prop), MInv a.toList b.toList out.toList ia ib → ia + 1 < a.size → ib < b.size → n0 ≤ ia + ib → StEq st st0 →
      (∀ r t st', Q r st' → Q2 (.done (some r, t)) st') → (∀ (st' : SortSt) (out : Array Keyed) (ia ib mg ac bc : Nat), StEq st st' → MInv a.toList b.toList out.toList ia ib → ia + 1 < a.size → ib < b.size → n0 + 1 ≤ ia + ib → Q2 (.done (none, out, ia, ib, mg, ac, bc)) st' ∧ Q2 (.yield (none, out, ia, ib, mg, ac, bc)) st') →
      wpS (model prog w) A E s (loA a b mg ac bc out ia ib) Q2 st0 := fun mg ac bc out ia ib n0 st0 Q2 m h1 h2 hn e0 q1 q2 => by
    unfold loA
    rw [setMinGallop'_eq]
    refine wpS_bind (wpS_modify ?_)
    have e : StEq st (SortSt.mk' (kindOf st0) (arrOf st0) (pendingOf st0) mg (failedOf st0)) := ⟨e0.kind, e0.arr, e0.pend, e0.fail⟩
    generalize SortSt.mk' (kindOf st0) (arrOf st0) (pendingOf st0) mg (failedOf st0) = st' at e ⊢
    obtain ⟨y, ey, ey'⟩ := at_arr (arr := b) (i := ib) (by omega)
    refine wpS_bind (wpS_elem ey ?_)
    refine wpS_bind (wpS_gallop (e.kind.trans hk) (p.kb y (List.mem_of_getElem? ey')) (by (clear h ext ext2 dB dA dL hna hnb hn q1 q2 stepC stepB h2; omega)) (by (clear h ext ext2 dB dA dL hna hnb hn q1 q2 stepC stepB h2; omega)) p.ka (fun i j hij hj => K_le p.sa (by (clear h ext ext2 dB dA dL hna hnb stepC stepB h1 h2 hn q1 hj q2; omega)) (by (clear h ext ext2 dB dA dL hna hnb stepC stepB h1 h2 hn q1 q2 hij; omega))) fun k hk2 g1 g2 => ?_)
    simp only [Bool.false_eq_true, if_false] at g1 g2
    have m3 : MInv a.toList b.toList (out ++ a.extract ia (ia + k)).toList (ia + k) ib := by
      rw [Array.toList_append, ext2]
      refine m.addA p.sa k fun u hu v hv => ?_
      obtain ⟨j, hj, e1⟩ := mem_cut hu
      obtain ⟨j2, e2⟩ := mem_tail hv
      have h3 := g1 j hj
      rw [K_of e1] at h3
      have h4 := srt_at p.sb (Nat.le_add_right ib j2) ey' e2
      unfold LE at h4 ⊢
      (clear h ext ext2 dB dA dL hna hnb stepC stepB h1 h2 hn q1 q2 hk2 g1 g2 hj; omega)
    have hl3 : ∀ u, b.toList[ib]? = some u → ∀ q ∈ a.toList.drop (ia + k), LE u q := fun u hu q hq => by
      rw [ey'] at hu; cases hu
      obtain ⟨j, hj⟩ := mem_tail hq
      have hjl := (List.getElem?_eq_some_iff.mp hj).1
      rw [Array.length_toList] at hjl
      have := g2 (k + j) (by (clear h ext ext2 dB dA dL hna hnb stepC stepB h1 h2 hn q1 q2 hk2 g1 g2 hjl; omega)) (by (clear h ext ext2 dB dA dL hna hnb stepC stepB h1 h2 hn q1 q2 hk2 g1 g2; omega))
      rw [show ia + (k + j) = ia + k + j by (clear h ext ext2 dB dA dL hna hnb stepC stepB h1 h2 hn q1 q2 hk2 g1 g2 hjl this; omega), K_of hj] at this
      unfold LE
      (clear h ext ext2 dB dA dL hna hnb stepC stepB h1 h2 hn q1 q2 hk2 g1 g2 hjl; omega)
    dsimp only
    by_cases ck : k > 0
    · rw [if_pos ck]
      by_cases c2 : ia + k + 1 = a.size
      · rw [if_pos (by simpa using c2)]
        exact wpS_pure (q1 _ _ _ (dL _ _ _ _ m3 c2 e))
      · rw [if_neg (by simpa using c2)]
        by_cases c3 : ia + k = a.size
        · rw [if_pos (by simpa using c3)]
          exact wpS_pure (q1 _ _ _ (dA _ _ _ _ m3 c3 e))
        · rw [if_neg (by simpa using c3)]
          exact stepB _ _ _ _ _ _ n0 _ _ m3 (by (clear h ext ext2 dB dA dL hna hnb stepC stepB h1 h2 hn q1 g1 g2 q2 hl3; omega)) h2 hl3 (by (clear h ext ext2 dB dA dL hna hnb stepC stepB h1 g2 hl3 ck c2 c3 q2 hk2 g1 q1 h2; omega)) e (fun r t => q1 r t st') (fun o i j g x y => q2 st' o i j g x y e)
    · rw [if_neg ck]
      have k0 : k = 0 := by (clear h ext ext2 dB dA dL hna hnb stepC stepB h1 h2 hn q1 q2 hk2 g1 g2 hl3; omega)
      subst k0
      exact stepB _ _ _ _ _ _ n0 _ _ m (by omega) h2 hl3 (by omega) e (fun r t => q1 r t st') (fun o i j g x y => q2 st' o i j g x y e)
  unfold mergeLo'
  refine wpS_bind (wpS_lift (wpAny_rule ⟨rfl, ?_⟩))
  refine wpS_bind (wpS_elem eb0 ?_)
  dsimp only
  by_cases c1 : 1 = b.size
  · rw [if_pos (by simpa using c1)]
    exact wpS_pure (dB _ _ _ _ m0 c1 (StEq.refl _))
  rw [if_neg (by simpa using c1)]
  by_cases c2 : 0 + 1 = a.size
  · rw [if_pos (by simpa using c2)]
    exact wpS_pure (dL _ _ _ _ m0 c2 (StEq.refl _))
  rw [if_neg (by simpa using c2)]
  refine wpS_bind (wpS_get ?_)
  refine wpS_bind (wpS_mono (wpS_forRange (I := fun x c st' => ∃ out ia ib mg, c = (none, out, ia, ib, mg) ∧ StEq st st' ∧ MInv a.toList b.toList out.toList ia ib ∧ ia + 1 < a.size ∧ ib < b.size ∧ x + 1 ≤ ia + ib)
    (Q := fun c st' => ∃ r t, c = (some r, t) ∧ Q r st') ?step ?fin ⟨_, _, _, _, rfl, StEq.refl _, m0, by omega, by (clear h ext ext2 dB dA dL hna stepB stepA stepC c2; omega), by omega⟩) ?post)
  case post =>
    rintro c st' ⟨r, t, rfl, q⟩
    exact wpS_pure q
  case fin =>
    rintro c st' ⟨out, ia, ib, mg, rfl, e, m, h1, h2, h3⟩
    omega
  case step =>
    rintro x c st' _ hx ⟨out, ia, ib, mg, rfl, e, m, h1, h2, h3⟩
    dsimp only
    refine wpS_bind (wpS_mono (wpS_forRange (I := fun y c st2 => st2 = st' ∧ ∃ out2 ia2 ib2 ac bc, c = (none, out2, ia2, ib2, ac, bc) ∧ MInv a.toList b.toList out2.toList ia2 ib2 ∧ ia2 + 1 < a.size ∧ ib2 < b.size ∧ ia + ib + y ≤ ia2 + ib2)
      (Q := fun c st2 => st2 = st' ∧ ((∃ r t, c = (some r, t) ∧ Q r st') ∨ ∃ out2 ia2 ib2 ac bc, c = (none, out2, ia2, ib2, ac, bc) ∧ MInv a.toList b.toList out2.toList ia2 ib2 ∧ ia2 + 1 < a.size ∧ ib2 < b.size ∧ ia + ib + 1 ≤ ia2 + ib2)) ?istep ?ifin ⟨rfl, _, _, _, _, _, rfl, m, h1, h2, by omega⟩) ?ipost)
    case ifin =>
      rintro c st2 ⟨rfl, out2, ia2, ib2, ac, bc, rfl, m2, g1, g2, g3⟩
      (clear h ext ext2 dB dA dL hna hnb stepC stepB stepA c1 c2 hx h1 h2 h3; omega)
    case istep =>
      rintro y c st2 _ hy ⟨rfl, out2, ia2, ib2, ac, bc, rfl, m2, g1, g2, g3⟩
      dsimp only
      obtain ⟨u, eu, eu'⟩ := at_arr (arr := b) (i := ib2) (by omega)
      obtain ⟨v, ev, ev'⟩ := at_arr (arr := a) (i := ia2) (by omega)
      refine wpS_bind (wpS_elem eu (wpS_bind (wpS_elem ev (wpS_bind (wpS_ltp (e.kind.trans hk) (p.kb u (List.mem_of_getElem? eu')) (p.ka v (List.mem_of_getElem? ev')) ?_)))))
      dsimp only
      by_cases c : kq u < kq v
      · rw [if_pos (decide_eq_true c)]
        refine wpS_bind (wpS_elem eu ?_)
        have m3 : MInv a.toList b.toList (out2.push u).toList ia2 (ib2 + 1) := by
          rw [Array.toList_push]
          refine m2.pushB p.sb eu' fun q hq => ?_
          obtain ⟨j, hj⟩ := mem_tail hq
          have := srt_at p.sa (Nat.le_add_right ia2 j) ev' hj
          unfold LE at this ⊢
          (clear h ext ext2 dB dA dL hna hnb stepC stepB stepA c1 c2 hx h1 h2 h3 hy g1 g2 g3; omega)
        by_cases c4 : ib2 + 1 = b.size
        · rw [if_pos (by simpa using c4)]
          exact wpS_pure ⟨rfl, .inl ⟨_, _, rfl, dB _ _ _ _ m3 c4 e⟩⟩
        · rw [if_neg (by simpa using c4)]
          split
          · exact wpS_pure ⟨rfl, .inr ⟨_, _, _, _, _, rfl, m3, g1, by (clear h ext ext2 dB dA dL hna hnb stepC stepB stepA c1 c2 hx h1 h2 h3 hy g3 c g1; omega), by (clear h ext ext2 dB dA dL hna hnb stepC stepB stepA c1 c2 hx h1 h2 h3 hy c c4 g1 g2; omega)⟩⟩
          · exact wpS_pure ⟨rfl, _, _, _, _, _, rfl, m3, g1, by (clear h ext ext2 dB dA dL hna hnb stepC stepB stepA c1 c2 hx h1 h2 h3 hy g3 c g1; omega), by (clear h ext ext2 dB dA dL hna hnb stepC stepB stepA c1 c2 hx h1 h2 h3 hy c c4 g1 g2; omega)⟩
      · rw [if_neg (by simpa using c)]
        refine wpS_bind (wpS_elem ev ?_)
        have m3 : MInv a.toList b.toList (out2.push v).toList (ia2 + 1) ib2 := by
          rw [Array.toList_push]
          refine m2.pushA p.sa ev' fun q hq => ?_
          obtain ⟨j, hj⟩ := mem_tail hq
          have := srt_at p.sb (Nat.le_add_right ib2 j) eu' hj
          unfold LE at this ⊢
          (clear h ext ext2 dB dA dL hna hnb stepC stepB stepA c1 c2 hx h1 h2 h3 hy g1 g2 g3; omega)
        by_cases c4 : ia2 + 1 + 1 = a.size
        · rw [if_pos (by simpa using c4)]
          exact wpS_pure ⟨rfl, .inl ⟨_, _, rfl, dL _ _ _ _ m3 c4 e⟩⟩
        · rw [if_neg (by simpa using c4)]
          split
          · exact wpS_pure ⟨rfl, .inr ⟨_, _, _, _, _, rfl, m3, by (clear h ext ext2 dB dA dL hna hnb stepC stepB stepA c1 c2 hx h1 h2 h3 hy g3 c g2; omega), g2, by (clear h ext ext2 dB dA dL hna hnb stepC stepB stepA c1 c2 hx h1 h2 h3 hy c c4 g1 g2; omega)⟩⟩
          · exact wpS_pure ⟨rfl, _, _, _, _, _, rfl, m3, by (clear h ext ext2 dB dA dL hna hnb stepC stepB stepA c1 c2 hx h1 h2 h3 hy g3 c g2; omega), g2, by (clear h ext ext2 dB dA dL hna hnb stepC stepB stepA c1 c2 hx h1 h2 h3 hy c c4 g1 g2; omega)⟩
    case ipost =>
      rintro c st2 ⟨rfl, (⟨r, t, rfl, q⟩ | ⟨out2, ia2, ib2, ac, bc, rfl, m2, g1, g2, g3⟩)⟩
      · exact wpS_pure ⟨r, _, rfl, q⟩
      dsimp only
      refine wpS_bind (wpS_lift (wpAny_rule ⟨rfl, ?_⟩))
      refine wpS_bind (wpS_mono (wpS_forRange (I := fun y c st3 => ∃ out3 ia3 ib3 mg ac bc, c = (none, out3, ia3, ib3, mg, ac, bc) ∧ StEq st st3 ∧ MInv a.toList b.toList out3.toList ia3 ib3 ∧ ia3 + 1 < a.size ∧ ib3 < b.size ∧ ia2 + ib2 + y ≤ ia3 + ib3)
        (Q := fun c st3 => (∃ r t, c = (some r, t) ∧ Q r st3) ∨ ∃ out3 ia3 ib3 mg ac bc, c = (none, out3, ia3, ib3, mg, ac, bc) ∧ StEq st st3 ∧ MInv a.toList b.toList out3.toList ia3 ib3 ∧ ia3 + 1 < a.size ∧ ib3 < b.size ∧ ia2 + ib2 ≤ ia3 + ib3) ?jstep ?jfin ⟨_, _, _, _, _, _, rfl, e, m2, g1, g2, by (clear h ext ext2 dB dA dL hna hnb stepC stepB stepA c1 c2 hx h1 h2 h3 g1 g2 g3; omega)⟩) ?jpost)
      case jfin =>
        rintro c st3 ⟨out3, ia3, ib3, mg3, ac3, bc3, rfl, e3, m3, g4, g5, g6⟩
        (clear h ext ext2 dB dA dL hna hnb stepC stepB stepA c1 c2 hx h1 h2 h3 g1 g2 g3; omega)
      case jstep =>
        rintro y c st3 _ hy ⟨out3, ia3, ib3, mg3, ac3, bc3, rfl, e3, m3, g4, g5, g6⟩
        by_cases c : mg3 > 1
        · dsimp only
          rw [if_pos c]
          show wpS (model prog w) A E s (loA a b (mg3 - 1) ac3 bc3 out3 ia3 ib3) _ st3
          exact stepA _ ac3 bc3 out3 ia3 ib3 (ia3 + ib3) st3 _ m3 g4 g5 (Nat.le_refl _) e3 (fun r t st' q => .inl ⟨r, t, rfl, q⟩) fun st' o i j g x' y' e4 m4 z1 z2 z3 => ⟨.inr ⟨_, _, _, _, _, _, rfl, e4, m4, z1, z2, by (clear h ext ext2 dB dA dL hna hnb stepC stepB stepA c1 c2 hx h1 h2 h3 g1 g2 g3 hy g4 g5 z1 z2 c; omega)⟩, ⟨_, _, _, _, _, _, rfl, e4, m4, z1, z2, by (clear h ext ext2 dB dA dL hna hnb stepC stepB stepA c1 c2 hx h1 h2 h3 g1 g2 g3 hy g4 g5 z1 z2 c; omega)⟩⟩
        · dsimp only
          rw [if_neg c]
          show wpS (model prog w) A E s (loA a b mg3 ac3 bc3 out3 ia3 ib3) _ st3
          exact stepA _ ac3 bc3 out3 ia3 ib3 (ia3 + ib3) st3 _ m3 g4 g5 (Nat.le_refl _) e3 (fun r t st' q => .inl ⟨r, t, rfl, q⟩) fun st' o i j g x' y' e4 m4 z1 z2 z3 => ⟨.inr ⟨_, _, _, _, _, _, rfl, e4, m4, z1, z2, by (clear h ext ext2 dB dA dL hna hnb stepC stepB stepA c1 c2 hx h1 h2 h3 g1 g2 g3 hy g4 g5 z1 z2 c; omega)⟩, ⟨_, _, _, _, _, _, rfl, e4, m4, z1, z2, by (clear h ext ext2 dB dA dL hna hnb stepC stepB stepA c1 c2 hx h1 h2 h3 g1 g2 g3 hy g4 g5 z1 z2 c; omega)⟩⟩
      case jpost =>
        rintro c st3 (⟨r, t, rfl, q⟩ | ⟨out3, ia3, ib3, mg3, ac3, bc3, rfl, e3, m3, g4, g5, g6⟩)
        · exact wpS_pure ⟨r, _, rfl, q⟩
        dsimp only
        exact wpS_bind (wpS_modify (wpS_pure ⟨_, _, _, _, rfl, ⟨e3.kind, e3.arr, e3.pend, e3.fail⟩, m3, g4, g5, by (clear h ext ext2 dB dA dL hna hnb stepC stepB stepA c1 c2 hx h1 g1 g2 h2 g4 g5; omega)⟩))
end
end L2

set_option Elab.async false
set_option linter.all false
namespace L2
open PySem PyProof.Rows
structure HInv (A B out : List Keyed) (na nb : Nat) : Prop where
  perm : out.Perm (A.drop na ++ B.drop nb)
  srt : Srt out.reverse
  above : ∀ p ∈ out, (∀ q ∈ A.take na, LE q p) ∧ ∀ q ∈ B.take nb, LE q p
theorem mem_head {α : Type} {A : List α} {n : Nat} {p : α} (h : p ∈ A.take n) : ∃ j, j < n ∧ A[j]? = some p := by
  obtain ⟨j, hj⟩ := List.getElem?_of_mem h
  rw [List.getElem?_take] at hj
  split at hj
  · rename_i hlt; exact ⟨j, hlt, hj⟩
  · cases hj
theorem head_mem {α : Type} {A : List α} {n j : Nat} {p : α} (h : j < n) (e : A[j]? = some p) : p ∈ A.take n := List.mem_of_getElem? (i := j) (by rw [List.getElem?_take, if_pos h]; exact e)
theorem HInv.swap {A B out : List Keyed} {na nb : Nat} (m : HInv A B out na nb) : HInv B A out nb na := ⟨m.perm.trans List.perm_append_comm, m.srt, fun p hp => ⟨(m.above p hp).2, (m.above p hp).1⟩⟩
theorem HInv.addA {A B out : List Keyed} {na nb : Nat} (m : HInv A B out na nb) (hA : Srt A) {at_ : Nat} (hat : at_ ≤ na) (h : ∀ p ∈ (A.drop at_).take (na - at_), ∀ q ∈ B.take nb, LE q p) : HInv A B (out ++ ((A.drop at_).take (na - at_)).reverse) at_ nb := by
  have hd : A.drop at_ = (A.drop at_).take (na - at_) ++ A.drop na := by
    have := (List.take_append_drop (na - at_) (A.drop at_)).symm
    rw [List.drop_drop, show at_ + (na - at_) = na by omega] at this
    exact this
  refine ⟨?_, ?_, fun p hp => ?_⟩
  · have h1 := (m.perm.append_right ((A.drop at_).take (na - at_)).reverse)
    refine h1.trans ((List.Perm.append_left _ (List.reverse_perm _)).trans (List.perm_append_comm.trans ?_))
    rw [← List.append_assoc, ← hd]
  · rw [List.reverse_append, List.reverse_reverse]
    refine List.pairwise_append.mpr ⟨srt_cut hA _ _, m.srt, fun p hp q hq => (m.above q (List.mem_reverse.mp hq)).1 p ?_⟩
    obtain ⟨j, hj, e⟩ := mem_cut hp
    exact head_mem (by omega) e
  · rcases List.mem_append.mp hp with hp | hp
    · refine ⟨fun q hq => (m.above p hp).1 q ?_, (m.above p hp).2⟩
      obtain ⟨j, hj, e⟩ := mem_head hq
      exact head_mem (by omega) e
    · have hp := List.mem_reverse.mp hp
      refine ⟨fun q hq => ?_, h p hp⟩
      obtain ⟨j, hj, e1⟩ := mem_cut hp
      obtain ⟨j2, hj2, e2⟩ := mem_head hq
      exact srt_at hA (by omega) e2 e1
theorem HInv.addB {A B out : List Keyed} {na nb : Nat} (m : HInv A B out na nb) (hB : Srt B) {at_ : Nat} (hat : at_ ≤ nb) (h : ∀ p ∈ (B.drop at_).take (nb - at_), ∀ q ∈ A.take na, LE q p) : HInv A B (out ++ ((B.drop at_).take (nb - at_)).reverse) na at_ := (m.swap.addA hB hat h).swap
theorem HInv.pushA {A B out : List Keyed} {na nb : Nat} {x : Keyed} (m : HInv A B out na nb) (hA : Srt A) (hn : 1 ≤ na) (hx : A[na - 1]? = some x) (h : ∀ q ∈ B.take nb, LE q x) : HInv A B (out ++ [x]) (na - 1) nb := by
  have e : (A.drop (na - 1)).take (na - (na - 1)) = [x] := by rw [show na - (na - 1) = 1 by omega]; exact one_cut hx
  have := m.addA hA (at_ := na - 1) (by omega) (by rw [e]; intro p hp; rw [List.mem_singleton.mp hp]; exact h)
  rw [e] at this; exact this
theorem HInv.pushB {A B out : List Keyed} {na nb : Nat} {x : Keyed} (m : HInv A B out na nb) (hB : Srt B) (hn : 1 ≤ nb) (hx : B[nb - 1]? = some x) (h : ∀ q ∈ A.take na, LE q x) : HInv A B (out ++ [x]) na (nb - 1) := (m.swap.pushA hB hn hx h).swap
theorem HInv.endA {A B out : List Keyed} {na nb : Nat} (m : HInv A B out na nb) (hA : Srt A) (hb : nb = 0) : (A.take na ++ out.reverse).Perm (A ++ B) ∧ Srt (A.take na ++ out.reverse) := by
  subst hb
  refine ⟨?_, List.pairwise_append.mpr ⟨hA.sublist (List.take_sublist _ _), m.srt, fun p hp q hq => (m.above q (List.mem_reverse.mp hq)).1 p hp⟩⟩
  have h1 := ((List.reverse_perm out).trans m.perm).append_left (A.take na)
  rw [List.drop_zero, ← List.append_assoc, List.take_append_drop] at h1
  exact h1
theorem HInv.endB {A B out : List Keyed} {na nb : Nat} (m : HInv A B out na nb) (hB : Srt B) (ha : na = 0) : (B.take nb ++ out.reverse).Perm (A ++ B) ∧ Srt (B.take nb ++ out.reverse) := by
  obtain ⟨h1, h2⟩ := m.swap.endA hB ha
  exact ⟨h1.trans List.perm_append_comm, h2⟩
theorem HInv.endBA {A B out : List Keyed} {na nb : Nat} (m : HInv A B out na nb) (hA : Srt A) (hB : Srt B) (h : ∀ p ∈ B.take nb, ∀ q ∈ A.take na, LE p q) : (B.take nb ++ A.take na ++ out.reverse).Perm (A ++ B) ∧ Srt (B.take nb ++ A.take na ++ out.reverse) := by
  have m2 := m.addA hA (at_ := 0) (Nat.zero_le _) (fun p hp q hq => h q hq p (by simpa using hp))
  rw [List.drop_zero, Nat.sub_zero] at m2
  have := m2.endB hB rfl
  rw [List.reverse_append, List.reverse_reverse, ← List.append_assoc] at this
  exact this
abbrev T3 := Option (Array Keyed) × Nat × Nat × Array Keyed × Nat × Nat × Nat
def hiC (a b : Array Keyed) (mg ac bc : Nat) (out : Array Keyed) (na nb : Nat) : SM (ForInStep T3) := do
  let x ← elem' a (na - 1)
  if na - 1 == 0 then return .done (some (a.extract 0 (na - 1) ++ b.extract 0 nb ++ (out.push x).reverse), na - 1, nb, out.push x, mg, ac, bc)
  if ac < 7 && bc < 7 then return .done (none, na - 1, nb, out.push x, mg, ac, bc)
  return .yield (none, na - 1, nb, out.push x, mg, ac, bc)
def hiB (a b : Array Keyed) (mg ac bc : Nat) (out : Array Keyed) (na nb : Nat) : SM (ForInStep T3) := do
  let x ← elem' b (nb - 1)
  if nb - 1 == 1 then return .done (some (b.extract 0 (nb - 1) ++ a.extract 0 na ++ (out.push x).reverse), na, nb - 1, out.push x, mg, ac, bc)
  let y ← elem' a (na - 1)
  let some at_ ← gallop' true y b 0 (nb - 1) (nb - 1 - 1) | return .done (some (a.extract 0 na ++ b.extract 0 (nb - 1) ++ (out.push x).reverse), na, nb - 1, out.push x, mg, ac, bc)
  if nb - 1 - at_ > 0 then
    if at_ == 1 then return .done (some (b.extract 0 at_ ++ a.extract 0 na ++ (out.push x ++ (b.extract at_ (nb - 1)).reverse).reverse), na, at_, out.push x ++ (b.extract at_ (nb - 1)).reverse, mg, ac, nb - 1 - at_)
    else if at_ == 0 then return .done (some (a.extract 0 na ++ b.extract 0 at_ ++ (out.push x ++ (b.extract at_ (nb - 1)).reverse).reverse), na, at_, out.push x ++ (b.extract at_ (nb - 1)).reverse, mg, ac, nb - 1 - at_)
    else hiC a b mg ac (nb - 1 - at_) (out.push x ++ (b.extract at_ (nb - 1)).reverse) na at_
  else hiC a b mg ac (nb - 1 - at_) (out.push x) na (nb - 1)
def hiA (a b : Array Keyed) (mg ac bc : Nat) (out : Array Keyed) (na nb : Nat) : SM (ForInStep T3) := do
  setMinGallop' mg
  let y ← elem' b (nb - 1)
  let some at_ ← gallop' false y a 0 na (na - 1) | return .done (some (a.extract 0 na ++ b.extract 0 nb ++ out.reverse), na, nb, out, mg, ac, bc)
  if na - at_ > 0 then
    if at_ == 0 then return .done (some (a.extract 0 at_ ++ b.extract 0 nb ++ (out ++ (a.extract at_ na).reverse).reverse), at_, nb, out ++ (a.extract at_ na).reverse, mg, na - at_, bc)
    else hiB a b mg (na - at_) bc (out ++ (a.extract at_ na).reverse) at_ nb
  else hiB a b mg (na - at_) bc out na nb
section
variable {prog : Program} {w : World} {A : Around} {E : Value → Shared → Prop} {s : Shared}
theorem wpS_mergeHi {a b : Array Keyed} {st : SortSt} {Q : Array Keyed → SortSt → Prop} (hk : kindOf st = oneType') (p : MPre a b) (h : ∀ out st', MEnd a b st out st' → Q out st') : wpS (model prog w) A E s (mergeHi' a b) Q st := by
  have ext : ∀ (x : Array Keyed) (i : Nat), (x.extract 0 i).toList = x.toList.take i := fun x i => by rw [Array.toList_extract, List.extract_eq_take_drop, List.drop_zero, Nat.sub_zero]
  have ext2 : ∀ (x : Array Keyed) (i k : Nat), (x.extract i k).toList = (x.toList.drop i).take (k - i) := fun x i k => by rw [Array.toList_extract, List.extract_eq_take_drop]
  have dA : ∀ (out : Array Keyed) (na nb : Nat) (st' : SortSt), HInv a.toList b.toList out.toList na nb → na = 0 → StEq st st' → Q (a.extract 0 na ++ b.extract 0 nb ++ out.reverse) st' := fun out na nb st' m e q => by
    refine h _ _ ⟨?_, ?_, q⟩ <;> rw [Array.toList_append, Array.toList_append, Array.toList_reverse, ext, ext, e, List.take_zero, List.nil_append]
    · exact (m.endB p.sb e).1
    · exact (m.endB p.sb e).2
  have dB : ∀ (out : Array Keyed) (na nb : Nat) (st' : SortSt), HInv a.toList b.toList out.toList na nb → nb = 0 → StEq st st' → Q (a.extract 0 na ++ b.extract 0 nb ++ out.reverse) st' := fun out na nb st' m e q => by
    refine h _ _ ⟨?_, ?_, q⟩ <;> rw [Array.toList_append, Array.toList_append, Array.toList_reverse, ext, ext, e, List.take_zero, List.append_nil]
    · exact (m.endA p.sa e).1
    · exact (m.endA p.sa e).2
  have dL : ∀ (out : Array Keyed) (na nb : Nat) (st' : SortSt), HInv a.toList b.toList out.toList na nb → nb = 1 → StEq st st' → Q (b.extract 0 nb ++ a.extract 0 na ++ out.reverse) st' := fun out na nb st' m e q => by
    have h4 : ∀ x ∈ b.toList.take nb, ∀ y ∈ a.toList.take na, LE x y := fun x hx y hy => by
      obtain ⟨j, hj, e1⟩ := mem_head hx
      have : j = 0 := by omega
      subst this
      exact p.fst y (List.mem_of_mem_take hy) x e1
    refine h _ _ ⟨?_, ?_, q⟩ <;> rw [Array.toList_append, Array.toList_append, Array.toList_reverse, ext, ext]
    · exact (m.endBA p.sa p.sb h4).1
    · exact (m.endBA p.sa p.sb h4).2
  have hna := p.na
  have hnb := p.nb
  obtain ⟨a0, ea0, ea0'⟩ := at_arr (arr := a) (i := a.size - 1) (by omega)
  have m0 : HInv a.toList b.toList (#[a0] : Array Keyed).toList (a.size - 1) b.size := by
    have hb : b.toList.drop b.size = [] := List.drop_of_length_le (by simp)
    refine ⟨?_, by simp, fun x hx => ?_⟩
    · have := one_cut ea0'
      rw [List.take_of_length_le (by simp; omega)] at this
      rw [this, hb]; simp
    · have hx : x = a0 := by simpa using hx
      subst hx
      refine ⟨fun q hq => ?_, fun q hq => p.lst q (List.mem_of_mem_take hq) x ea0'⟩
      obtain ⟨j, hj, e⟩ := mem_head hq
      exact srt_at p.sa (by omega) e ea0'
  have stepC : ∀ (mg ac bc : Nat) (out : Array Keyed) (na nb n0 : Nat) (st' : SortSt) (Q2 : ForInStep T3 → SortSt → Prop), HInv a.toList b.toList out.toList na nb → 1 ≤ na → na ≤ a.size → 2 ≤ nb → nb ≤ b.size → (∀ x, a.toList[na - 1]? = some x → ∀ q ∈ b.toList.take nb, LE q x) → na + nb ≤ n0 → StEq st st' →
      (∀ r t, Q r st' → Q2 (.done (some r, t)) st') → (∀ (out : Array Keyed) (na nb mg ac bc : Nat), HInv a.toList b.toList out.toList na nb → 1 ≤ na → na ≤ a.size → 2 ≤ nb → nb ≤ b.size → na + nb + 1 ≤ n0 → Q2 (.done (none, na, nb, out, mg, ac, bc)) st' ∧ Q2 (.yield (none, na, nb, out, mg, ac, bc)) st') →
      wpS (model prog w) A E s (hiC a b mg ac bc out na nb) Q2 st' := fun mg ac bc out na nb n0 st' Q2 m h1 h1' h2 h2' hle hn e q1 q2 => by
    unfold hiC
    obtain ⟨x, ex, ex'⟩ := at_arr (arr := a) (i := na - 1) (by (clear h ext ext2 dA dB dL hna hnb hle hn q1 q2 h2 h2'; omega))
    refine wpS_bind (wpS_elem ex ?_)
    have m2 : HInv a.toList b.toList (out.push x).toList (na - 1) nb := by rw [Array.toList_push]; exact m.pushA p.sa h1 ex' (hle x ex')
    by_cases c : na - 1 = 0
    · rw [if_pos (by simpa using c)]
      exact wpS_pure (q1 _ _ (dA _ _ _ _ m2 c e))
    · rw [if_neg (by simpa using c)]
      obtain ⟨z1, z2⟩ := q2 _ _ _ mg ac bc m2 (by (clear h ext ext2 dA dB dL hna hnb h1 h1' h2 h2' hle hn q1 q2; omega)) (by omega) h2 h2' (by omega)
      split
      · exact wpS_pure z1
      · exact wpS_pure z2
  have stepB : ∀ (mg ac bc : Nat) (out : Array Keyed) (na nb n0 : Nat) (st' : SortSt) (Q2 : ForInStep T3 → SortSt → Prop), HInv a.toList b.toList out.toList na nb → 1 ≤ na → na ≤ a.size → 2 ≤ nb → nb ≤ b.size → (∀ x, b.toList[nb - 1]? = some x → ∀ q ∈ a.toList.take na, LE q x) → na + nb ≤ n0 → StEq st st' →
      (∀ r t, Q r st' → Q2 (.done (some r, t)) st') → (∀ (out : Array Keyed) (na nb mg ac bc : Nat), HInv a.toList b.toList out.toList na nb → 1 ≤ na → na ≤ a.size → 2 ≤ nb → nb ≤ b.size → na + nb + 1 ≤ n0 → Q2 (.done (none, na, nb, out, mg, ac, bc)) st' ∧ Q2 (.yield (none, na, nb, out, mg, ac, bc)) st') →
      wpS (model prog w) A E s (hiB a b mg ac bc out na nb) Q2 st' := fun mg ac bc out na nb n0 st' Q2 m h1 h1' h2 h2' hle hn e q1 q2 => by
    unfold hiB
    obtain ⟨x, ex, ex'⟩ := at_arr (arr := b) (i := nb - 1) (by (clear h ext ext2 dA dB dL hna hnb stepC hn q1 q2 h1 h1' hle; omega))
    refine wpS_bind (wpS_elem ex ?_)
    have m2 : HInv a.toList b.toList (out.push x).toList na (nb - 1) := by rw [Array.toList_push]; exact m.pushB p.sb (by omega) ex' (hle x ex')
    by_cases c : nb - 1 = 1
    · rw [if_pos (by simpa using c)]
      exact wpS_pure (q1 _ _ (dL _ _ _ _ m2 c e))
    · rw [if_neg (by simpa using c)]
      obtain ⟨y, ey, ey'⟩ := at_arr (arr := a) (i := na - 1) (by (clear h ext ext2 dA dB dL hna hnb stepC hn q1 q2 c h2' hle h2; omega))
      refine wpS_bind (wpS_elem ey ?_)
      refine wpS_bind (wpS_gallop (e.kind.trans hk) (p.ka y (List.mem_of_getElem? ey')) (by (clear h ext ext2 dA dB dL hna hnb stepC hn q1 q2 c h2' hle h1 h1'; omega)) (by omega) p.kb (fun i j hij hj => K_le p.sb (by (clear h ext ext2 dA dB dL hna hnb stepC h1 h1' h2 h2' hle hn q1 q2 c hj; omega)) (by (clear h ext ext2 dA dB dL hna hnb stepC h1 hle hn q1 q2 c hij h1' h2; omega))) fun k hk2 g1 g2 => ?_)
      simp only [if_true, Nat.zero_add] at g1 g2
      have m3 : HInv a.toList b.toList (out.push x ++ (b.extract k (nb - 1)).reverse).toList na k := by
        rw [Array.toList_append, Array.toList_reverse, ext2]
        refine m2.addB p.sb hk2 fun u hu v hv => ?_
        obtain ⟨j, hj, e1⟩ := mem_cut hu
        obtain ⟨j2, hj2, e2⟩ := mem_head hv
        have h3 := g2 (k + j) (by (clear h ext ext2 dA dB dL hna hnb stepC h1 h1' h2 h2' hle hn q1 q2 c hk2 g1 g2 hj hj2; omega)) (by (clear h ext ext2 dA dB dL hna hnb stepC h1 h1' h2 h2' hle hn q1 q2 c hk2 g1 g2 hj2; omega))
        rw [K_of e1] at h3
        have h4 := srt_at p.sa (show j2 ≤ na - 1 by (clear h ext ext2 dA dB dL hna hnb stepC h1 h1' h2 h2' hle hn q1 q2 c hk2 g1 g2 h3 hj; omega)) e2 ey'
        unfold LE at h4 ⊢
        (clear h ext ext2 dA dB dL hna hnb stepC h1 h1' h2 h2' hle hn q1 q2 c hk2 g1 g2 hj hj2; omega)
      have hl3 : ∀ u, a.toList[na - 1]? = some u → ∀ q ∈ b.toList.take k, LE q u := fun u hu q hq => by
        rw [ey'] at hu; cases hu
        obtain ⟨j, hj, e1⟩ := mem_head hq
        have := g1 j hj
        rw [K_of e1] at this
        unfold LE
        (clear h ext ext2 dA dB dL hna hnb stepC h1 h1' h2 h2' hle hn q1 q2 c hk2 g1 g2 hj; omega)
      dsimp only
      by_cases ck : nb - 1 - k > 0
      · rw [if_pos ck]
        by_cases c2 : k = 1
        · rw [if_pos (by simpa using c2)]
          exact wpS_pure (q1 _ _ (dL _ _ _ _ m3 c2 e))
        · rw [if_neg (by simpa using c2)]
          by_cases c3 : k = 0
          · rw [if_pos (by simpa using c3)]
            exact wpS_pure (q1 _ _ (dB _ _ _ _ m3 c3 e))
          · rw [if_neg (by simpa using c3)]
            exact stepC _ _ _ _ _ _ n0 _ _ m3 h1 h1' (by (clear h ext ext2 dA dB dL hna hnb stepC h1 h1' h2 h2' hle hn q1 q2 c hk2 g1 g2 hl3 ck; omega)) (by (clear h ext ext2 dA dB dL hna hn q1 q2 c hk2 g1 g2 hnb stepC h1 h1' hle hl3 c3 h2 c2; omega)) hl3 (by (clear h ext ext2 dA dB dL hna hnb stepC h1 h1' h2 h2' g2 hl3 ck c2 c3 q1 q2 g1 hle c; omega)) e q1 q2
      · rw [if_neg ck]
        have k0 : k = nb - 1 := by (clear h ext ext2 dA dB dL hna hnb stepC h1 h1' h2 h2' hle hn q1 q2 c g2 hl3 g1; omega)
        rw [← k0] at m2 ⊢
        exact stepC _ _ _ _ _ _ n0 _ _ m2 h1 h1' (by (clear h ext ext2 dA dB dL hna hnb stepC h2' hle hn hk2 g1 g2 h1 h1' hl3 ck q1 q2; omega)) (by (clear h ext ext2 dA dB dL hna hnb stepC h1 h1' h2 q1 q2 c hk2 g1 g2 hn hl3 hle ck; omega)) hl3 (by (clear h ext ext2 dA dB dL hna hnb stepC h1 h1' h2 q1 q2 c hk2 g1 g2 h2' hle hl3 ck; omega)) e q1 q2
  have stepA : ∀ (mg ac bc : Nat) (out : Array Keyed) (na nb n0 : Nat) (st0 : SortSt) (Q2 : ForInStep T3 → SortSt → Prop), HInv a.toList b.toList out.toList na nb → 1 ≤ na → na ≤ a.size → 2 ≤ nb → nb ≤ b.size → na + nb ≤ n0 → StEq st st0 →
      (∀ r t st', Q r st' → Q2 (.done (some r, t)) st') → (∀ (st' : SortSt) (out : Array Keyed) (na nb mg ac bc : Nat), StEq st st' → HInv a.toList b.toList out.toList na nb → 1 ≤ na → na ≤ a.size → 2 ≤ nb → nb ≤ b.size → na + nb + 1 ≤ n0 → Q2 (.done (none, na, nb, out, mg, ac, bc)) st' ∧ Q2 (.yield (none, na, nb, out, mg, ac, bc)) st') →
      wpS (model prog w) A E s (hiA a b mg ac bc out na nb) Q2 st0 := fun mg ac bc out na nb n0 st0 Q2 m h1 h1' h2 h2' hn e0 q1 q2 => by
    unfold hiA
    rw [setMinGallop'_eq]
    refine wpS_bind (wpS_modify ?_)
    have e : StEq st (SortSt.mk' (kindOf st0) (arrOf st0) (pendingOf st0) mg (failedOf st0)) := ⟨e0.kind, e0.arr, e0.pend, e0.fail⟩
    generalize SortSt.mk' (kindOf st0) (arrOf st0) (pendingOf st0) mg (failedOf st0) = st' at e ⊢
    obtain ⟨y, ey, ey'⟩ := at_arr (arr := b) (i := nb - 1) (by (clear h ext ext2 dA dB dL hna hnb stepC hn q1 q2 stepB h1 h1'; omega))
    refine wpS_bind (wpS_elem ey ?_)
    refine wpS_bind (wpS_gallop (e.kind.trans hk) (p.kb y (List.mem_of_getElem? ey')) (by (clear h ext ext2 dA dB dL hna hnb stepC hn q1 q2 h2 h2' h1' stepB; omega)) (by omega) p.ka (fun i j hij hj => K_le p.sa (by (clear h ext ext2 dA dB dL hna hnb stepC stepB h1 h1' h2 h2' hn hj q1 q2; omega)) (by (clear h ext ext2 dA dB dL hna hnb stepC stepB h2' hn q1 h2 q2 h1 hij; omega))) fun k hk2 g1 g2 => ?_)
    simp only [Bool.false_eq_true, if_false, Nat.zero_add] at g1 g2
    have m3 : HInv a.toList b.toList (out ++ (a.extract k na).reverse).toList k nb := by
      rw [Array.toList_append, Array.toList_reverse, ext2]
      refine m.addA p.sa hk2 fun u hu v hv => ?_
      obtain ⟨j, hj, e1⟩ := mem_cut hu
      obtain ⟨j2, hj2, e2⟩ := mem_head hv
      have h3 := g2 (k + j) (by (clear h ext ext2 dA dB dL hna hnb stepC stepB h1 h1' h2 h2' hn q1 q2 hk2 g1 g2 hj hj2; omega)) (by (clear h ext ext2 dA dB dL hna hnb stepC stepB h1 h1' h2 h2' hn q1 q2 hk2 g1 g2 hj2; omega))
      rw [K_of e1] at h3
      have h4 := srt_at p.sb (show j2 ≤ nb - 1 by (clear h ext ext2 dA dB dL hna hnb stepC stepB h1 h1' h2 h2' hn q1 q2 hk2 g1 g2 hj h3; omega)) e2 ey'
      unfold LE at h4 ⊢
      (clear h ext ext2 dA dB dL hna hnb stepC stepB h1 h1' h2 h2' hn q1 q2 hk2 g1 g2 hj hj2; omega)
    have hl3 : ∀ u, b.toList[nb - 1]? = some u → ∀ q ∈ a.toList.take k, LE q u := fun u hu q hq => by
      rw [ey'] at hu; cases hu
      obtain ⟨j, hj, e1⟩ := mem_head hq
      have := g1 j hj
      rw [K_of e1] at this
      exact this
    dsimp only
    by_cases ck : na - k > 0
    · rw [if_pos ck]
      by_cases c2 : k = 0
      · rw [if_pos (by simpa using c2)]
        exact wpS_pure (q1 _ _ _ (dA _ _ _ _ m3 c2 e))
      · rw [if_neg (by simpa using c2)]
        exact stepB _ _ _ _ _ _ n0 _ _ m3 (by (clear h ext ext2 dA dB dL hna hnb stepC stepB h1 h1' h2 h2' hn q1 q2 hk2 g1 g2 hl3 ck; omega)) (by omega) h2 h2' hl3 (by (clear h ext ext2 dA dB dL hna hnb stepC stepB h1 h1' g1 g2 hl3 ck c2 h2 h2' q1 q2; omega)) e (fun r t => q1 r t st') (fun o i j g x y => q2 st' o i j g x y e)
    · rw [if_neg ck]
      have k0 : k = na := by (clear h ext ext2 dA dB dL hna hnb stepC stepB h1 h1' h2 h2' hn q1 q2 g2 hl3 g1; omega)
      subst k0
      exact stepB _ _ _ _ _ _ n0 _ _ m h1 h1' h2 h2' hl3 (by omega) e (fun r t => q1 r t st') (fun o i j g x y => q2 st' o i j g x y e)
  unfold mergeHi'
  refine wpS_bind (wpS_lift (wpAny_rule ⟨rfl, ?_⟩))
  refine wpS_bind (wpS_elem ea0 ?_)
  dsimp only
  by_cases c1 : a.size - 1 = 0
  · rw [if_pos (by simpa using c1)]
    exact wpS_pure (dA _ _ _ _ m0 c1 (StEq.refl _))
  rw [if_neg (by simpa using c1)]
  by_cases c2 : b.size = 1
  · rw [if_pos (by simpa using c2)]
    exact wpS_pure (dL _ _ _ _ m0 c2 (StEq.refl _))
  rw [if_neg (by simpa using c2)]
  refine wpS_bind (wpS_get ?_)
  refine wpS_bind (wpS_mono (wpS_forRange (I := fun x c st' => ∃ na nb out mg, c = (none, na, nb, out, mg) ∧ StEq st st' ∧ HInv a.toList b.toList out.toList na nb ∧ 1 ≤ na ∧ na ≤ a.size ∧ 2 ≤ nb ∧ nb ≤ b.size ∧ na + nb + x + 1 ≤ a.size + b.size)
    (Q := fun c st' => ∃ r t, c = (some r, t) ∧ Q r st') ?step ?fin ⟨_, _, _, _, rfl, StEq.refl _, m0, by (clear h ext ext2 dA dB dL hna hnb stepC stepB stepA c2; omega), by omega, by omega, by omega, by omega⟩) ?post)
  case post =>
    rintro c st' ⟨r, t, rfl, q⟩
    exact wpS_pure q
  case fin =>
    rintro c st' ⟨na, nb, out, mg, rfl, e, m, h1, h1', h2, h2', h3⟩
    omega
  case step =>
    rintro x c st' _ hx ⟨na, nb, out, mg, rfl, e, m, h1, h1', h2, h2', h3⟩
    dsimp only
    refine wpS_bind (wpS_mono (wpS_forRange (I := fun y c st2 => st2 = st' ∧ ∃ na2 nb2 out2 ac bc, c = (none, na2, nb2, out2, ac, bc) ∧ HInv a.toList b.toList out2.toList na2 nb2 ∧ 1 ≤ na2 ∧ na2 ≤ a.size ∧ 2 ≤ nb2 ∧ nb2 ≤ b.size ∧ na2 + nb2 + y ≤ na + nb)
      (Q := fun c st2 => st2 = st' ∧ ((∃ r t, c = (some r, t) ∧ Q r st') ∨ ∃ na2 nb2 out2 ac bc, c = (none, na2, nb2, out2, ac, bc) ∧ HInv a.toList b.toList out2.toList na2 nb2 ∧ 1 ≤ na2 ∧ na2 ≤ a.size ∧ 2 ≤ nb2 ∧ nb2 ≤ b.size ∧ na2 + nb2 + 1 ≤ na + nb)) ?istep ?ifin ⟨rfl, _, _, _, _, _, rfl, m, h1, h1', h2, h2', by omega⟩) ?ipost)
    case ifin =>
      rintro c st2 ⟨rfl, na2, nb2, out2, ac, bc, rfl, m2, g1, g1', g2, g2', g3⟩
      (clear h ext ext2 dA dB dL hna hnb stepC stepB stepA c1 c2 hx h1 h1' h2 h2' g1' g2 g1 g2'; omega)
    case istep =>
      rintro y c st2 _ hy ⟨rfl, na2, nb2, out2, ac, bc, rfl, m2, g1, g1', g2, g2', g3⟩
      dsimp only
      obtain ⟨u, eu, eu'⟩ := at_arr (arr := b) (i := nb2 - 1) (by (clear h ext ext2 dA dB dL hna hnb stepC stepB stepA c1 c2 hx h1 h1' h2 h2' h3 hy g3 g1 g1'; omega))
      obtain ⟨v, ev, ev'⟩ := at_arr (arr := a) (i := na2 - 1) (by (clear h ext ext2 dA dB dL hna hnb stepC stepB stepA c1 c2 hx h1 h1' h2 h2' h3 hy g3 g2 g2'; omega))
      refine wpS_bind (wpS_elem eu (wpS_bind (wpS_elem ev (wpS_bind (wpS_ltp (e.kind.trans hk) (p.kb u (List.mem_of_getElem? eu')) (p.ka v (List.mem_of_getElem? ev')) ?_)))))
      dsimp only
      by_cases c : kq u < kq v
      · rw [if_pos (decide_eq_true c)]
        refine wpS_bind (wpS_elem ev ?_)
        have m3 : HInv a.toList b.toList (out2.push v).toList (na2 - 1) nb2 := by
          rw [Array.toList_push]
          refine m2.pushA p.sa g1 ev' fun q hq => ?_
          obtain ⟨j, hj, e1⟩ := mem_head hq
          have := srt_at p.sb (show j ≤ nb2 - 1 by (clear h ext ext2 dA dB dL hna hnb stepC stepB stepA c1 c2 hx h1 h1' h2 h2' h3 hy g1 g1' g2 g2' g3 c; omega)) e1 eu'
          unfold LE at this ⊢
          (clear h ext ext2 dA dB dL hna hnb stepC stepB stepA c1 c2 hx h1 h1' h2 h2' h3 hy g1 g1' g2 g2' g3 hj; omega)
        by_cases c4 : na2 - 1 = 0
        · rw [if_pos (by simpa using c4)]
          exact wpS_pure ⟨rfl, .inl ⟨_, _, rfl, dA _ _ _ _ m3 c4 e⟩⟩
        · rw [if_neg (by simpa using c4)]
          split
          · exact wpS_pure ⟨rfl, .inr ⟨_, _, _, _, _, rfl, m3, by (clear h ext ext2 dA dB dL hna hnb stepC stepB stepA c1 c2 hx h1 h1' h2 h2' h3 hy g1 g1' g2 g2' g3 c; omega), by omega, g2, g2', by omega⟩⟩
          · exact wpS_pure ⟨rfl, _, _, _, _, _, rfl, m3, by (clear h ext ext2 dA dB dL hna hnb stepC stepB stepA c1 c2 hx h1 h1' h2 h2' h3 hy g1 g1' g2 g2' g3 c; omega), by omega, g2, g2', by omega⟩
      · rw [if_neg (by simpa using c)]
        refine wpS_bind (wpS_elem eu ?_)
        have m3 : HInv a.toList b.toList (out2.push u).toList na2 (nb2 - 1) := by
          rw [Array.toList_push]
          refine m2.pushB p.sb (by (clear h ext ext2 dA dB dL hna hnb stepC stepB stepA c1 c2 hx h1 h1' h2 h2' h3 hy g3 c g1 g1' g2'; omega)) eu' fun q hq => ?_
          obtain ⟨j, hj, e1⟩ := mem_head hq
          have := srt_at p.sa (show j ≤ na2 - 1 by (clear h ext ext2 dA dB dL hna hnb stepC stepB stepA c1 c2 hx h1 h1' h2 h2' h3 hy g1 g1' g2 g2' g3 c; omega)) e1 ev'
          unfold LE at this ⊢
          (clear h ext ext2 dA dB dL hna hnb stepC stepB stepA c1 c2 hx h1 h1' h2 h2' h3 hy g1 g1' g2 g2' g3 hj; omega)
        by_cases c4 : nb2 - 1 = 1
        · rw [if_pos (by simpa using c4)]
          exact wpS_pure ⟨rfl, .inl ⟨_, _, rfl, dL _ _ _ _ m3 c4 e⟩⟩
        · rw [if_neg (by simpa using c4)]
          split
          · exact wpS_pure ⟨rfl, .inr ⟨_, _, _, _, _, rfl, m3, g1, g1', by (clear h ext ext2 dA dB dL hna hnb stepC stepB stepA c1 c2 hx h1 h1' h2 h2' h3 hy g1 g2' g3 g1' c; omega), by (clear h ext ext2 dA dB dL hna hnb stepC stepB stepA c1 c2 hx h1 h1' h2 h2' h3 hy g1 c c4 g1' g2 g3; omega), by (clear h ext ext2 dA dB dL hna hnb stepC stepB stepA c1 c2 hx h1 h1' h2 h2' h3 hy g1 c c4 g1' g2'; omega)⟩⟩
          · exact wpS_pure ⟨rfl, _, _, _, _, _, rfl, m3, g1, g1', by (clear h ext ext2 dA dB dL hna hnb stepC stepB stepA c1 c2 hx h1 h1' h2 h2' h3 hy g1 g2' g3 g1' c; omega), by (clear h ext ext2 dA dB dL hna hnb stepC stepB stepA c1 c2 hx h1 h1' h2 h2' h3 hy g1 c c4 g1' g2 g3; omega), by (clear h ext ext2 dA dB dL hna hnb stepC stepB stepA c1 c2 hx h1 h1' h2 h2' h3 hy g1 c c4 g1' g2'; omega)⟩
    case ipost =>
      rintro c st2 ⟨rfl, (⟨r, t, rfl, q⟩ | ⟨na2, nb2, out2, ac, bc, rfl, m2, g1, g1', g2, g2', g3⟩)⟩
      · exact wpS_pure ⟨r, _, rfl, q⟩
      dsimp only
      refine wpS_bind (wpS_lift (wpAny_rule ⟨rfl, ?_⟩))
      refine wpS_bind (wpS_mono (wpS_forRange (I := fun y c st3 => ∃ na3 nb3 out3 mg ac bc, c = (none, na3, nb3, out3, mg, ac, bc) ∧ StEq st st3 ∧ HInv a.toList b.toList out3.toList na3 nb3 ∧ 1 ≤ na3 ∧ na3 ≤ a.size ∧ 2 ≤ nb3 ∧ nb3 ≤ b.size ∧ na3 + nb3 + y ≤ na2 + nb2)
        (Q := fun c st3 => (∃ r t, c = (some r, t) ∧ Q r st3) ∨ ∃ na3 nb3 out3 mg ac bc, c = (none, na3, nb3, out3, mg, ac, bc) ∧ StEq st st3 ∧ HInv a.toList b.toList out3.toList na3 nb3 ∧ 1 ≤ na3 ∧ na3 ≤ a.size ∧ 2 ≤ nb3 ∧ nb3 ≤ b.size ∧ na3 + nb3 ≤ na2 + nb2) ?jstep ?jfin ⟨_, _, _, _, _, _, rfl, e, m2, g1, g1', g2, g2', by (clear h ext ext2 dA dB dL hna hnb stepC stepB stepA c1 c2 hx h1 h1' h2 h2' h3 g1 g1' g2 g2' g3; omega)⟩) ?jpost)
      case jfin =>
        rintro c st3 ⟨na3, nb3, out3, mg3, ac3, bc3, rfl, e3, m3, g4, g4', g5, g5', g6⟩
        (clear h ext ext2 dA dB dL hna hnb stepC stepB stepA c1 c2 hx h1 h1' h2 h2' h3 g3 g4 g1 g2 g4' g5'; omega)
      case jstep =>
        rintro y c st3 _ hy ⟨na3, nb3, out3, mg3, ac3, bc3, rfl, e3, m3, g4, g4', g5, g5', g6⟩
        by_cases c : mg3 > 1
        · dsimp only
          rw [if_pos c]
          show wpS (model prog w) A E s (hiA a b (mg3 - 1) ac3 bc3 out3 na3 nb3) _ st3
          exact stepA _ ac3 bc3 out3 na3 nb3 (na3 + nb3) st3 _ m3 g4 g4' g5 g5' (Nat.le_refl _) e3 (fun r t st' q => .inl ⟨r, t, rfl, q⟩) fun st' o i j g x' y' e4 m4 z1 z1' z2 z2' z3 => ⟨.inr ⟨_, _, _, _, _, _, rfl, e4, m4, z1, z1', z2, z2', by (clear h ext ext2 dA dB dL hna hnb stepC stepB stepA c1 c2 hx h1 h1' h2 h2' h3 g1 g1' g2 g2' g3 hy g4 g4' c z1 z1' g5 g5' z2 z2'; omega)⟩, ⟨_, _, _, _, _, _, rfl, e4, m4, z1, z1', z2, z2', by (clear h ext ext2 dA dB dL hna hnb stepC stepB stepA c1 c2 hx h1 h1' h2 h2' h3 g1 g1' g2 g2' g3 hy g4 g4' c z1 z1' g5 g5' z2 z2'; omega)⟩⟩
        · dsimp only
          rw [if_neg c]
          show wpS (model prog w) A E s (hiA a b mg3 ac3 bc3 out3 na3 nb3) _ st3
          exact stepA _ ac3 bc3 out3 na3 nb3 (na3 + nb3) st3 _ m3 g4 g4' g5 g5' (Nat.le_refl _) e3 (fun r t st' q => .inl ⟨r, t, rfl, q⟩) fun st' o i j g x' y' e4 m4 z1 z1' z2 z2' z3 => ⟨.inr ⟨_, _, _, _, _, _, rfl, e4, m4, z1, z1', z2, z2', by (clear h ext ext2 dA dB dL hna hnb stepC stepB stepA c1 c2 hx h1 h1' h2 h2' h3 g1 g1' g2 g2' g3 hy g4 g4' c z1 z1' g5 g5' z2 z2'; omega)⟩, ⟨_, _, _, _, _, _, rfl, e4, m4, z1, z1', z2, z2', by (clear h ext ext2 dA dB dL hna hnb stepC stepB stepA c1 c2 hx h1 h1' h2 h2' h3 g1 g1' g2 g2' g3 hy g4 g4' c z1 z1' g5 g5' z2 z2'; omega)⟩⟩
      case jpost =>
        rintro c st3 (⟨r, t, rfl, q⟩ | ⟨na3, nb3, out3, mg3, ac3, bc3, rfl, e3, m3, g4, g4', g5, g5', g6⟩)
        · exact wpS_pure ⟨r, _, rfl, q⟩
        dsimp only
        exact wpS_bind (wpS_modify (wpS_pure ⟨_, _, _, _, rfl, ⟨e3.kind, e3.arr, e3.pend, e3.fail⟩, m3, g4, g4', g5, g5', by omega⟩))
end
end L2

set_option Elab.async false
set_option linter.all false
namespace L2
open PySem PyProof.Rows
/-! ### runs anywhere in the array -/
def RunAt (xs : Array Keyed) (lo k : Nat) : Prop := ∀ i j, i ≤ j → j < k → K xs (lo + i) ≤ K xs (lo + j)
def FallAt (xs : Array Keyed) (lo k : Nat) : Prop := ∀ i j, i ≤ j → j < k → K xs (lo + j) ≤ K xs (lo + i)
structure SB (a₀ : Array Keyed) (pd : Array (Nat × Nat × Nat)) (st : SortSt) : Prop where
  perm : (arrOf st).Perm a₀
  kind : kindOf st = oneType'
  failed : failedOf st = none
  pend : pendingOf st = pd
/-- the keys ahead of lo are as they were -/
def Ahead (lo : Nat) (xs ys : Array Keyed) : Prop := ∀ i, i < lo → K ys i = K xs i
theorem Ahead.refl (lo : Nat) (xs : Array Keyed) : Ahead lo xs xs := fun _ _ => rfl
theorem Ahead.trans {lo : Nat} {xs ys zs : Array Keyed} (h : Ahead lo xs ys) (k : Ahead lo ys zs) : Ahead lo xs zs := fun i hi => (k i hi).trans (h i hi)
section
variable {a₀ : Array Keyed} {pd : Array (Nat × Nat × Nat)} {st : SortSt}
theorem SB.size (h : SB a₀ pd st) : (arrOf st).size = a₀.size := h.perm.size_eq
theorem SB.to (h : SB a₀ pd st) {xs : Array Keyed} (hp : xs.Perm (arrOf st)) : SB a₀ pd (setArr st xs) := ⟨hp.trans h.perm, h.kind, h.failed, h.pend⟩
theorem SB.at (h : SB a₀ pd st) (h0 : IntKeys a₀) {i : Nat} (hi : i < a₀.size) : ∃ t q, (arrOf st)[i]? = some (.int (K (arrOf st) i) t, q) :=
  SBase.at (st := SortSt.mk' (kindOf st) (arrOf st) #[] (gallopOf st) (failedOf st)) ⟨h.perm, h.kind, h.failed, rfl⟩ h0 hi
variable {prog : Program} {w : World} {A : Around} {E : Value → Shared → Prop} {s : Shared}
theorem wpS_ltB {i j : Nat} {Q : Option Bool → SortSt → Prop} (hB : SB a₀ pd st) (h0 : IntKeys a₀) (hi : i < a₀.size) (hj : j < a₀.size)
    (h : Q (some (decide (K (arrOf st) i < K (arrOf st) j))) st) : wpS (model prog w) A E s (ltAt' i j) Q st := by
  obtain ⟨t, p, e1⟩ := hB.at h0 hi
  obtain ⟨u, q, e2⟩ := hB.at h0 hj
  exact wpS_ltAt hB.kind e1 e2 h
theorem wpS_binAt {lo n ok : Nat} {Q : Bool → SortSt → Prop} (h0 : IntKeys a₀) (hn : lo + n ≤ a₀.size) (hok : ok ≤ n) (hB : SB a₀ pd st) (hs : RunAt (arrOf st) lo ok)
    (h : ∀ st', SB a₀ pd st' → RunAt (arrOf st') lo n → Ahead lo (arrOf st) (arrOf st') → Q true st') : wpS (model prog w) A E s (binarySort' lo n ok) Q st := by
  rw [binarySort'_eq]
  refine wpS_bind (wpS_mono (wpS_forRange (I := fun k c st' => c = (none, ()) ∧ SB a₀ pd st' ∧ RunAt (arrOf st') lo (min k n) ∧ Ahead lo (arrOf st) (arrOf st'))
    (Q := fun c st' => c = (none, ()) ∧ SB a₀ pd st' ∧ RunAt (arrOf st') lo n ∧ Ahead lo (arrOf st) (arrOf st')) ?step ?fin ?init) ?post)
  case post =>
    rintro c st' ⟨rfl, hB', hs', ha⟩
    exact wpS_pure (h st' hB' hs' ha)
  case init =>
    refine ⟨rfl, hB, fun i j hij hj => ?_, Ahead.refl _ _⟩
    by_cases h1 : ok = 0
    · have : i = j := by omega
      subst this; exact Int.le_refl _
    · exact hs i j hij (by (clear hn hok h hij; omega))
  case fin =>
    rintro c st' ⟨hc, hB', hs', ha⟩
    refine ⟨hc, hB', ?_, ha⟩
    rwa [show min (max (max ok 1) n) n = n by (clear hn hok h; omega)] at hs'
  case step =>
    rintro k c st' hak hkn ⟨rfl, hB', hs', ha⟩
    rw [show min k n = k by (clear hn hok h hak; omega)] at hs'
    refine wpS_bind (wpS_mono (wpS_forRange (I := fun x c st2 => st2 = st' ∧ ∃ l r, c = (none, l, r) ∧ l ≤ r ∧ r ≤ k ∧ r - l ≤ k - x ∧
        (∀ i, i < l → K (arrOf st') (lo + i) ≤ K (arrOf st') (lo + k)) ∧ (∀ i, r ≤ i → i < k → K (arrOf st') (lo + k) < K (arrOf st') (lo + i)))
      (Q := fun c st2 => st2 = st' ∧ ∃ l r, c = (none, l, r) ∧ l ≤ k ∧
        (∀ i, i < l → K (arrOf st') (lo + i) ≤ K (arrOf st') (lo + k)) ∧ (∀ i, l ≤ i → i < k → K (arrOf st') (lo + k) < K (arrOf st') (lo + i))) ?istep ?ifin ?iinit) ?ipost)
    case iinit => exact ⟨rfl, 0, k, rfl, by (clear hn hok h hak hkn; omega), by omega, by (clear hn hok h hak hkn; omega), fun i hi => by (clear hn hok h hak hkn; omega), fun i h1 h2 => by (clear hn hok h hak hkn; omega)⟩
    case ifin =>
      rintro c st2 ⟨rfl, l, r, rfl, hlr, hrk, hm, hlo, hhi⟩
      have : l = r := by (clear hn hok h hak hkn hlo hhi hrk; omega)
      subst this
      exact ⟨rfl, l, l, rfl, hrk, hlo, hhi⟩
    case istep =>
      rintro x c st2 _ hxk ⟨rfl, l, r, rfl, hlr, hrk, hm, hlo, hhi⟩
      dsimp only
      by_cases hge : l ≥ r
      · rw [if_pos hge]
        have : l = r := by (clear hn hok h hak hkn hxk hm hlo hrk hhi; omega)
        subst this
        exact wpS_pure ⟨rfl, l, l, rfl, hrk, hlo, hhi⟩
      · rw [if_neg hge]
        refine wpS_bind (wpS_ltB hB' h0 (by omega) (by (clear hlo hhi hge h hak hm hok hxk; omega)) ?_)
        by_cases hless : K (arrOf st2) (lo + k) < K (arrOf st2) (lo + (l + r) / 2)
        · simp only [hless, decide_true, if_true]
          exact wpS_pure ⟨rfl, l, (l + r) / 2, rfl, by (clear hn hok h hak hkn hxk hlr hrk hm hlo hhi hless; omega), by (clear hn hok h hak hkn hxk hlr hlo hhi hm hless; omega), by (clear hn hok h hak hkn hxk hlr hge hless hlo hhi hrk; omega), hlo, fun i h1 h2 => Int.lt_of_lt_of_le hless (hs' _ _ h1 h2)⟩
        · simp only [hless, decide_false, Bool.false_eq_true, if_false]
          exact wpS_pure ⟨rfl, (l + r) / 2 + 1, r, rfl, by (clear hn hok h hak hkn hxk hlr hrk hm hlo hhi hless; omega), by omega, by (clear hn hok h hak hkn hxk hlr hge hless hlo hhi hrk; omega), fun i h1 => Int.le_trans (hs' i ((l + r) / 2) (by (clear hn hok h hak hkn hxk hlr hrk hm hlo hhi hge hless; omega)) (by (clear hn hok h hak hkn hxk hlr hlo hhi h1 hm hless; omega))) (Int.not_lt.mp hless), hhi⟩
    case ipost =>
      rintro c st2 ⟨rfl, l, r, rfl, hlk, hlo, hhi⟩
      show wpS _ _ _ _ (do moveDown' (lo + k) (lo + l); pure (ForInStep.yield (none, ()))) _ _
      rw [moveDown'_eq]
      have hks : lo + k < (arrOf st2).size := by rw [hB'.size]; omega
      refine wpS_bind (wpS_modify (wpS_pure ⟨rfl, hB'.to (bubble_perm _ _ _), ?_, fun i hi => ?_⟩))
      · rw [show min (k + 1) n = k + 1 by (clear hlk hlo hhi hks hn hok h hak; omega)]
        intro i j hij hj
        show K (bubble (arrOf st2) (lo + k) (lo + k - (lo + l))) (lo + i) ≤ K (bubble (arrOf st2) (lo + k) (lo + k - (lo + l))) (lo + j)
        rw [K_bubble hks (by (clear hn hok h hak hkn hlk hlo hhi hks hij hj; omega)), K_bubble hks (by (clear hn hok h hak hkn hlk hlo hhi hks hij hj; omega)), show lo + k - (lo + k - (lo + l)) = lo + l by (clear hlo hhi hks hij hj hn hok h hak hkn; omega)]
        have back : ∀ i, 1 ≤ i → lo + i - 1 = lo + (i - 1) := fun i hi => by (clear hn hok h hak hkn hlk hlo hhi hks hij hj; omega)
        repeat' split
        all_goals first
          | (exfalso; omega)
          | exact Int.le_refl _
          | exact hlo _ (by (clear hn hok h hak hkn hlk hlo hhi hks back hj; omega))
          | (rw [back j (by (clear hn hok h hak hkn hlk hlo hhi hks hij hj back; omega))]; exact Int.le_of_lt (hhi _ (by (clear hn hok h hak hkn hlk hlo hhi hks hij hj back; omega)) (by (clear hn hok h hak hkn hlk hlo hhi hks hij hj back; omega))))
          | (rw [back j (by (clear hn hok h hak hkn hlk hlo hhi hks hij hj back; omega))]; exact hs' _ _ (by (clear hn hok h hak hkn hlk hlo hhi hks back hj; omega)) (by (clear hn hok h hak hkn hlk hlo hhi hks hij hj back; omega)))
          | (rw [back i (by (clear hn hok h hak hkn hlk hlo hhi hks hij hj back; omega)), back j (by (clear hn hok h hak hkn hlk hlo hhi hks hij hj back; omega))]; exact hs' _ _ (by (clear hn hok h hak hkn hlk hlo hhi hks back hj; omega)) (by (clear hn hok h hak hkn hlk hlo hhi hks hij hj back; omega)))
          | exact hs' _ _ (by omega) (by (clear hn hok h hlo hhi hks hak hkn hij back; omega))
      · show K (bubble (arrOf st2) (lo + k) (lo + k - (lo + l))) i = _
        rw [K_bubble hks (by (clear hn hok h hak hkn hlk hlo hhi hks hi; omega)), if_neg (by omega), if_neg (by (clear hn hok h hak hkn hlk hlo hhi hks; omega))]
        exact ha i hi
/-! a run found -/
def ascAt (lo a nrem : Nat) : SM AscSt :=
  forIn [a:nrem] ((none, a) : AscSt) fun _ z => do
    let v ← ltAt' (lo + z.snd) (lo + z.snd - 1)
    match v with
    | some less => if less = true then pure (ForInStep.done (none, z.snd)) else pure (ForInStep.yield (none, z.snd + 1))
    | _ => pure (ForInStep.done (some none, z.snd))
def tailAt (lo n nrem : Nat) : SM (Option Nat) := do
  reverseSlice' lo (lo + n)
  let z ← ascAt lo n nrem
  match z.fst with
  | some r => pure r
  | none => pure (some z.snd)
def descAt (lo n nrem : Nat) : SM DescSt :=
  forIn [n:nrem] ((none, n, 0) : DescSt) fun _ z => do
    let v ← ltAt' (lo + z.snd.fst) (lo + z.snd.fst - 1)
    match v with
    | some less =>
      if less = true then
        if z.snd.snd > 0 then do
          reverseSlice' (lo + z.snd.fst - (z.snd.snd + 1)) (lo + z.snd.fst)
          pure (ForInStep.yield (none, z.snd.fst + 1, 0))
        else pure (ForInStep.yield (none, z.snd.fst + 1, 0))
      else do
        let v ← ltAt' (lo + z.snd.fst - 1) (lo + z.snd.fst)
        match v with
        | some more =>
          if more = true then pure (ForInStep.done (none, z.snd.fst, z.snd.snd))
          else pure (ForInStep.yield (none, z.snd.fst + 1, z.snd.snd + 1))
        | _ => pure (ForInStep.done (some none, z.snd.fst, z.snd.snd))
    | _ => pure (ForInStep.done (some none, z.snd.fst, z.snd.snd))
def partAt (lo n nrem : Nat) : SM (Option Nat) := do
  liftM (rule "list.sort.descending-run")
  let z ← descAt lo (n + 1) nrem
  match z.fst with
  | some r => pure r
  | none =>
    if z.snd.snd > 0 then do
      reverseSlice' (lo + z.snd.fst - (z.snd.snd + 1)) (lo + z.snd.fst)
      tailAt lo z.snd.fst nrem
    else tailAt lo z.snd.fst nrem
theorem bind_same {α β : Type} {m m' : SM α} {f g : α → SM β} (h : m = m') (k : ∀ z, f z = g z) : (m >>= f) = (m' >>= g) := by
  subst h; congr 1; funext z; exact k z
theorem for_same {β : Type} {r : Std.Legacy.Range} {b : β} {f g : Nat → β → SM (ForInStep β)} (h : ∀ i z, f i z = g i z) : (forIn r b f : SM β) = forIn r b g := by
  congr 1; funext i z; exact h i z
theorem countRun_at (lo nrem : Nat) : countRun' lo nrem = (do
    let z ← ascAt lo 1 nrem
    match z.fst with
    | some r => pure r
    | none =>
      if (z.snd == nrem) = true then pure (some z.snd)
      else if z.snd > 1 then do
        let v ← ltAt' lo (lo + z.snd - 1)
        match v with
        | some rose => if rose = true then pure (some z.snd) else do
            reverseSlice' lo (lo + z.snd)
            partAt lo z.snd nrem
        | _ => pure none
      else partAt lo z.snd nrem) := by
  rw [countRun'_eq]
  unfold partAt tailAt descAt ascAt
  refine bind_same (for_same fun _ z => bind_same rfl fun v => by cases v <;> rfl) fun z => ?_
  obtain ⟨r, n⟩ := z
  cases r with
  | some r => rfl
  | none =>
    dsimp only
    split
    · rfl
    · split
      · refine bind_same rfl fun x => ?_
        cases x with
        | none => rfl
        | some rose =>
          cases rose with
          | true => rfl
          | false =>
            refine bind_same rfl fun _ => ?_
            refine bind_same rfl fun _ => bind_same (for_same fun _ z => bind_same rfl fun v => ?_) fun z => ?_
            · cases v with
              | none => rfl
              | some less =>
                cases less with
                | true => rfl
                | false => exact bind_same rfl fun v => by cases v <;> rfl
            · obtain ⟨r, m, q⟩ := z
              cases r with
              | some r => rfl
              | none =>
                dsimp only
                split
                · exact bind_same rfl fun _ => bind_same rfl fun _ => bind_same (for_same fun _ z => bind_same rfl fun v => by cases v <;> rfl) fun z => by
                    obtain ⟨r, m⟩ := z
                    cases r <;> rfl
                · exact bind_same rfl fun _ => bind_same (for_same fun _ z => bind_same rfl fun v => by cases v <;> rfl) fun z => by
                    obtain ⟨r, m⟩ := z
                    cases r <;> rfl
      · refine bind_same rfl fun _ => bind_same (for_same fun _ z => bind_same rfl fun v => ?_) fun z => ?_
        · cases v with
          | none => rfl
          | some less =>
            cases less with
            | true => rfl
            | false => exact bind_same rfl fun v => by cases v <;> rfl
        · obtain ⟨r, m, q⟩ := z
          cases r with
          | some r => rfl
          | none =>
            dsimp only
            split
            · exact bind_same rfl fun _ => bind_same rfl fun _ => bind_same (for_same fun _ z => bind_same rfl fun v => by cases v <;> rfl) fun z => by
                obtain ⟨r, m⟩ := z
                cases r <;> rfl
            · exact bind_same rfl fun _ => bind_same (for_same fun _ z => bind_same rfl fun v => by cases v <;> rfl) fun z => by
                obtain ⟨r, m⟩ := z
                cases r <;> rfl
theorem wpS_ascAt {lo a nrem : Nat} {Q : AscSt → SortSt → Prop} (h0 : IntKeys a₀) (hn : lo + nrem ≤ a₀.size) (ha : 1 ≤ a) (han : a ≤ nrem) (hB : SB a₀ pd st) (hs : RunAt (arrOf st) lo a)
    (h : ∀ n, a ≤ n → n ≤ nrem → RunAt (arrOf st) lo n → (n = nrem ∨ K (arrOf st) (lo + n) < K (arrOf st) (lo + (n - 1))) → Q (none, n) st) :
    wpS (model prog w) A E s (ascAt lo a nrem) Q st := by
  unfold ascAt
  refine wpS_forRange (I := fun x c st' => st' = st ∧ c = (none, x) ∧ RunAt (arrOf st) lo x) ?step ?fin ⟨rfl, rfl, hs⟩
  case fin =>
    rintro c st' ⟨rfl, rfl, hs'⟩
    rw [show max a nrem = nrem by omega] at hs' ⊢
    exact h nrem han (Nat.le_refl _) hs' (.inl rfl)
  case step =>
    rintro x c st' hax hxn ⟨rfl, rfl, hs'⟩
    dsimp only
    rw [show lo + x - 1 = lo + (x - 1) by (clear hxn h hn han; omega)]
    refine wpS_bind (wpS_ltB hB h0 (by omega) (by omega) ?_)
    by_cases hless : K (arrOf st') (lo + x) < K (arrOf st') (lo + (x - 1))
    · simp only [hless, decide_true, if_true]
      exact wpS_pure (h x hax (by (clear hn ha han hax hless h; omega)) hs' (.inr hless))
    · simp only [hless, decide_false, Bool.false_eq_true, if_false]
      refine wpS_pure ⟨rfl, rfl, fun i j hij hj => ?_⟩
      by_cases hjx : j < x
      · exact hs' i j hij hjx
      · have hj' : j = x := by (clear hn ha han hax hxn h hless hij; omega)
        subst hj'
        by_cases hi' : i = j
        · subst hi'; exact Int.le_refl _
        · exact Int.le_trans (hs' i (j - 1) (by (clear hn ha han hxn hless hj hax hjx h; omega)) (by (clear hxn hless hj hjx hi' han h hn hij; omega))) (Int.not_lt.mp hless)
theorem wpS_tailAt {lo n nrem : Nat} {Q : Option Nat → SortSt → Prop} (h0 : IntKeys a₀) (hn : lo + nrem ≤ a₀.size) (h1 : 1 ≤ n) (hnn : n ≤ nrem) (hB : SB a₀ pd st) (hs : FallAt (arrOf st) lo n)
    (h : ∀ m st', SB a₀ pd st' → 1 ≤ m → m ≤ nrem → RunAt (arrOf st') lo m → Ahead lo (arrOf st) (arrOf st') → Q (some m) st') : wpS (model prog w) A E s (tailAt lo n nrem) Q st := by
  unfold tailAt
  have hsz : lo + n ≤ (arrOf st).size := by rw [hB.size]; omega
  refine wpS_bind (wpS_reverse ?_)
  have hB' : SB a₀ pd (setArr st (mirror (arrOf st) lo (lo + n) ((lo + n - lo) / 2))) := hB.to (mirror_perm _ _ _ _)
  refine wpS_bind (wpS_ascAt h0 hn h1 hnn hB' ?_ fun m hm1 hm2 hsm _ => wpS_pure (h m _ hB' (by (clear hnn h hm2 hn hsz; omega)) hm2 hsm fun i hi => ?_))
  · intro i j hij hj
    show K (mirror (arrOf st) lo (lo + n) ((lo + n - lo) / 2)) (lo + i) ≤ K (mirror (arrOf st) lo (lo + n) ((lo + n - lo) / 2)) (lo + j)
    rw [K_mirror hsz, K_mirror hsz, if_pos (by (clear hn h1 hnn h hsz; omega)), if_pos (by (clear hn h1 hnn h hsz hij; omega)), show lo + (lo + n) - 1 - (lo + i) = lo + (n - 1 - i) by (clear hn h1 hnn h hsz; omega), show lo + (lo + n) - 1 - (lo + j) = lo + (n - 1 - j) by (clear hn h1 hnn h hsz hij; omega)]
    exact hs _ _ (by (clear hn h1 hnn h hj hsz; omega)) (by (clear hn h1 hnn h hsz hij; omega))
  · show K (mirror (arrOf st) lo (lo + n) ((lo + n - lo) / 2)) i = _
    rw [K_mirror hsz, if_neg (by (clear hn h1 hnn h hsz hm1 hm2; omega))]
theorem wpS_descAt {lo n nrem : Nat} {Q : DescSt → SortSt → Prop} (h0 : IntKeys a₀) (hn : lo + nrem ≤ a₀.size) (h1 : 1 ≤ n) (hnn : n ≤ nrem) (hB : SB a₀ pd st) (hs : FallAt (arrOf st) lo n)
    (h : ∀ m neq st', SB a₀ pd st' → n ≤ m → m ≤ nrem → FallAt (arrOf st') lo m → neq + 1 ≤ m → (∀ i, lo + m - (neq + 1) ≤ i → i < lo + m → K (arrOf st') i = K (arrOf st') (lo + m - 1)) → Ahead lo (arrOf st) (arrOf st') → Q (none, m, neq) st') :
    wpS (model prog w) A E s (descAt lo n nrem) Q st := by
  unfold descAt
  refine wpS_forRange (I := fun x c st' => ∃ neq, c = (none, x, neq) ∧ SB a₀ pd st' ∧ FallAt (arrOf st') lo x ∧ neq + 1 ≤ x ∧
      (∀ i, lo + x - (neq + 1) ≤ i → i < lo + x → K (arrOf st') i = K (arrOf st') (lo + x - 1)) ∧ Ahead lo (arrOf st) (arrOf st')) ?step ?fin ⟨0, rfl, hB, hs, by omega, fun i h1 h2 => by congr 1; (clear hn hnn h; omega), Ahead.refl _ _⟩
  case fin =>
    rintro c st' ⟨neq, rfl, hB', hs', hq, he, ha⟩
    rw [show max n nrem = nrem by omega] at hs' hq he ⊢
    exact h nrem neq st' hB' hnn (Nat.le_refl _) hs' hq he ha
  case step =>
    rintro x c st' hax hxn ⟨neq, rfl, hB', hs', hq, he, ha⟩
    dsimp only
    have hsz : lo + x ≤ (arrOf st').size := by rw [hB'.size]; omega
    have e1 : lo + x - 1 = lo + (x - 1) := by (clear hn h1 hnn h hax hsz he hxn; omega)
    refine wpS_bind (wpS_ltB hB' h0 (by (clear hq he hsz e1 hnn h h1 hax; omega)) (by (clear hq he hsz e1 hnn h h1 hax; omega)) ?_)
    by_cases hless : K (arrOf st') (lo + x) < K (arrOf st') (lo + x - 1)
    · simp only [hless, decide_true, if_true]
      have step1 : ∀ xs : Array Keyed, (∀ k, K xs k = K (arrOf st') k) → FallAt xs lo (x + 1) := by
        intro xs hk i j hij hj
        rw [hk, hk]
        by_cases hjx : j < x
        · exact hs' i j hij hjx
        · have hj' : j = x := by (clear hn h1 hnn h hax hxn hq he hsz e1 hless hk hij; omega)
          subst hj'
          by_cases hi' : i = j
          · subst hi'; exact Int.le_refl _
          · rw [e1] at hless
            exact Int.le_trans (Int.le_of_lt hless) (hs' i (j - 1) (by (clear hn h1 hnn h hq he hsz e1 hax hxn hless hj hk hjx; omega)) (by (clear hn h1 hnn h hk hij hax hxn hless hj hjx hi' hsz e1 he; omega)))
      by_cases hneq : neq > 0
      · rw [if_pos hneq]
        refine wpS_bind (wpS_reverse (wpS_pure ⟨0, rfl, hB'.to (mirror_perm _ _ _ _), step1 _ (K_mirror_equal hsz he), by (clear hn h1 hnn h hax hxn hq he hsz e1 hless step1 hneq; omega), fun i h1 h2 => by congr 1; (clear hn hnn h hax hxn hq he hsz e1 hless step1 hneq; omega), ha.trans fun i hi => K_mirror_equal hsz he i⟩))
      · rw [if_neg hneq]
        exact wpS_pure ⟨0, rfl, hB', step1 _ (fun _ => rfl), by (clear hn h1 hnn h hax hxn hq he hsz e1 hless step1 hneq; omega), fun i h1 h2 => by congr 1; (clear hn hnn h hax hxn hq he hsz e1 hless step1 hneq; omega), ha⟩
    · simp only [hless, decide_false, Bool.false_eq_true, if_false]
      refine wpS_bind (wpS_ltB hB' h0 (by (clear hq he hsz e1 hless hnn h h1 hax; omega)) (by (clear hq he hsz e1 hless hnn h h1 hax; omega)) ?_)
      by_cases hlarger : K (arrOf st') (lo + x - 1) < K (arrOf st') (lo + x)
      · simp only [hlarger, decide_true, if_true]
        exact wpS_pure (h x neq st' hB' hax (by (clear hq he hsz e1 hless hlarger hn h1 hnn h hax; omega)) hs' hq he ha)
      · simp only [hlarger, decide_false, Bool.false_eq_true, if_false]
        have heqx : K (arrOf st') (lo + x) = K (arrOf st') (lo + x - 1) := by (clear hn h1 hnn h hax hxn hq he hsz e1; omega)
        refine wpS_pure ⟨neq + 1, rfl, hB', fun i j hij hj => ?_, by (clear he hsz e1 hless hlarger heqx hn h1 hnn h hax hxn; omega), fun i h1 h2 => ?_, ha⟩
        · by_cases hjx : j < x
          · exact hs' i j hij hjx
          · have hj' : j = x := by (clear hn h1 hnn h hax hxn hq he hsz e1 hless hlarger heqx hij; omega)
            subst hj'
            by_cases hi' : i = j
            · subst hi'; exact Int.le_refl _
            · rw [heqx, e1]; exact hs' i (j - 1) (by (clear hax hxn hq he hsz e1 hless hlarger heqx hj hn h1 hnn h hjx; omega)) (by (clear hsz e1 hless hlarger heqx hj hjx hi' hn h1 hnn h hij he hax hxn; omega))
        · rw [show lo + (x + 1) - 1 = lo + x by (clear hn hnn h hax hxn hq he hsz e1 hless hlarger heqx h1 h2; omega)]
          by_cases hix : i = lo + x
          · rw [hix]
          · rw [heqx]; exact he i (by (clear hn hnn h hax hxn hq he hsz e1 hless hlarger heqx hix h2; omega)) (by (clear hn hnn h hax hxn hq he hsz e1 hless hlarger heqx h1; omega))
theorem wpS_partAt {lo n nrem : Nat} {Q : Option Nat → SortSt → Prop} (h0 : IntKeys a₀) (hn : lo + nrem ≤ a₀.size) (hnn : n + 1 ≤ nrem) (hB : SB a₀ pd st) (hs : FallAt (arrOf st) lo (n + 1))
    (h : ∀ m st', SB a₀ pd st' → 1 ≤ m → m ≤ nrem → RunAt (arrOf st') lo m → Ahead lo (arrOf st) (arrOf st') → Q (some m) st') : wpS (model prog w) A E s (partAt lo n nrem) Q st := by
  unfold partAt
  refine wpS_bind (wpS_lift (wpAny_rule ⟨rfl, ?_⟩))
  refine wpS_bind (wpS_descAt h0 hn (by omega) hnn hB hs fun m neq st' hB' hm1 hm2 hs' hq he ha => ?_)
  dsimp only
  have hsz : lo + m ≤ (arrOf st').size := by rw [hB'.size]; omega
  by_cases hneq : neq > 0
  · rw [if_pos hneq]
    refine wpS_bind (wpS_reverse (wpS_tailAt h0 hn (by (clear hn hnn h hm1 hm2 hneq hsz he; omega)) hm2 (hB'.to (mirror_perm _ _ _ _)) ?_ fun m2 st2 b1 b2 b3 b4 b5 => h m2 st2 b1 b2 b3 b4 ((ha.trans fun i hi => K_mirror_equal hsz he i).trans b5)))
    intro i j hij hj
    show K (mirror (arrOf st') _ _ _) (lo + j) ≤ K (mirror (arrOf st') _ _ _) (lo + i)
    rw [K_mirror_equal hsz he, K_mirror_equal hsz he]
    exact hs' i j hij hj
  · rw [if_neg hneq]
    exact wpS_tailAt h0 hn (by (clear hn hnn h hm1 hm2 hneq hsz he; omega)) hm2 hB' hs' fun m2 st2 b1 b2 b3 b4 b5 => h m2 st2 b1 b2 b3 b4 (ha.trans b5)
theorem wpS_countAt {lo nrem : Nat} {Q : Option Nat → SortSt → Prop} (h0 : IntKeys a₀) (hn : lo + nrem ≤ a₀.size) (h1 : 1 ≤ nrem) (hB : SB a₀ pd st)
    (h : ∀ m st', SB a₀ pd st' → 1 ≤ m → m ≤ nrem → RunAt (arrOf st') lo m → Ahead lo (arrOf st) (arrOf st') → Q (some m) st') : wpS (model prog w) A E s (countRun' lo nrem) Q st := by
  rw [countRun_at]
  refine wpS_bind (wpS_ascAt h0 hn (Nat.le_refl 1) h1 hB (fun i j hij hj => by have : i = j := by (clear hn h1 h; omega)
                                                                               subst this; exact Int.le_refl _) fun n hn1 hn2 hsn hor => ?_)
  dsimp only
  by_cases hnn : n = nrem
  · rw [if_pos (by simpa using hnn)]
    exact wpS_pure (h n st hB hn1 hn2 hsn (Ahead.refl _ _))
  · rw [if_neg (by simpa using hnn)]
    have hlt : K (arrOf st) (lo + n) < K (arrOf st) (lo + (n - 1)) := hor.resolve_left hnn
    have e1 : lo + n - 1 = lo + (n - 1) := by (clear hn2 hor hnn hlt hn h1 h; omega)
    by_cases hgt : n > 1
    · rw [if_pos hgt]
      refine wpS_bind (wpS_ltB hB h0 (by (clear hor hnn hlt e1 hgt hn1 hn2 h; omega)) (by omega) ?_)
      rw [e1]
      by_cases hrose : K (arrOf st) lo < K (arrOf st) (lo + (n - 1))
      · simp only [hrose, decide_true, if_true]
        exact wpS_pure (h n st hB hn1 hn2 hsn (Ahead.refl _ _))
      · simp only [hrose, decide_false, Bool.false_eq_true, if_false]
        have hsz : lo + n ≤ (arrOf st).size := by rw [hB.size]; (clear hnn hlt e1 hgt hrose h hn1 h1 hor; omega)
        have hal : ∀ k, k < n → K (arrOf st) (lo + k) = K (arrOf st) (lo + (n - 1)) := by
          intro k hk
          have a1 := hsn 0 k (by (clear hn h1 h hn1 hn2 hor hnn hlt e1 hgt hrose hsz hk; omega)) hk
          have a2 := hsn k (n - 1) (by (clear hn h1 h hn1 hn2 hor hnn hlt e1 hgt hrose a1 hsz; omega)) (by (clear hn h1 h hn1 hn2 hor hnn hlt e1 hgt hrose a1 hsz; omega))
          rw [Nat.add_zero] at a1
          (clear hn h1 h hn1 hn2 hor hnn hlt e1 hgt hsz hk; omega)
        have hall : ∀ k, lo ≤ k → k < lo + n → K (arrOf st) k = K (arrOf st) (lo + n - 1) := by
          intro k hk1 hk2
          have := hal (k - lo) (by (clear hn h1 h hn1 hn2 hor hnn hlt e1 hgt hrose hsz hal; omega))
          rw [show lo + (k - lo) = k by (clear hn h1 h hn1 hn2 hor hnn hlt e1 hgt hrose hsz hk2 this hal; omega)] at this
          rw [e1]; exact this
        refine wpS_bind (wpS_reverse (wpS_partAt h0 hn (by (clear hlt e1 hgt hrose hsz hal hall hn h1 h hn1 hor; omega)) (hB.to (mirror_perm _ _ _ _)) ?_ fun m2 st2 b1 b2 b3 b4 b5 => h m2 st2 b1 b2 b3 b4 (Ahead.trans (fun i hi => K_mirror_equal hsz hall i) b5)))
        intro i j hij hj
        show K (mirror (arrOf st) _ _ _) (lo + j) ≤ K (mirror (arrOf st) _ _ _) (lo + i)
        rw [K_mirror_equal hsz hall, K_mirror_equal hsz hall]
        by_cases hjn : j < n
        · rw [hal i (by (clear hn h1 h hn1 hn2 hor hnn hlt e1 hgt hrose hsz hal hall hj; omega)), hal j hjn]; exact Int.le_refl _
        · have hj' : j = n := by (clear hn h1 h hn1 hn2 hor hnn hlt e1 hgt hrose hsz hal hall hij; omega)
          subst hj'
          by_cases hi' : i = j
          · subst hi'; exact Int.le_refl _
          · rw [hal i (by (clear hn2 hor hnn hlt e1 hgt hrose hsz hal hall hn h1 h hj hjn hn1; omega))]; exact Int.le_of_lt hlt
    · rw [if_neg hgt]
      have hn1' : n = 1 := by (clear hn h1 h hnn hlt e1 hn2 hor; omega)
      subst hn1'
      refine wpS_partAt h0 hn (by (clear hn h1 h hgt hlt e1 hn1 hor; omega)) hB ?_ h
      intro i j hij hj
      by_cases hi' : i = j
      · subst hi'; exact Int.le_refl _
      · have hi0 : i = 0 := by (clear hn h1 h hn1 hn2 hor hnn hlt e1 hgt; omega)
        have hj1 : j = 1 := by (clear hn h1 h hn1 hn2 hor hnn hlt e1 hgt hij; omega)
        subst hi0; subst hj1
        exact Int.le_of_lt hlt
end
end L2

set_option Elab.async false
set_option linter.all false
namespace L2
open PySem PyProof.Rows
theorem mergeAt'_eq (i : Nat) : mergeAt' i = (do
  let s ← get
  let (some (p, m, u), some (q, n, _)) := ((pendingOf s)[i]?, (pendingOf s)[i + 1]?) | unsupported "internal:list.sort.pending"
  set (SortSt.mk' (kindOf s) (arrOf s) (((pendingOf s).setIfInBounds i (p, m + n, u)).eraseIdxIfInBounds (i + 1)) (gallopOf s) (failedOf s))
  let some k ← gallop' false (← elem' (arrOf s) q) (arrOf s) p m 0 | return false
  let (p, m) := (p + k, m - k)
  if m == 0 then return true
  let some n ← gallop' true (← elem' (arrOf s) (p + m - 1)) (arrOf s) q n (n - 1) | return false
  if n == 0 then return true
  let x := (arrOf s).extract p q
  let y := (arrOf s).extract q (q + n)
  let z ← if m ≤ n then mergeLo' x y else mergeHi' x y
  modify fun s => setArr s (z.toList.zipIdx.foldl (fun a (v, j) => a.setIfInBounds (p + j) v) (arrOf s))
  return (failedOf (← get)).isNone) := rfl
section
variable {prog : Program} {w : World} {A : Around} {E : Value → Shared → Prop} {s : Shared} {a₀ : Array Keyed} {pd : Array (Nat × Nat × Nat)} {st : SortSt}
theorem wpS_set {σ : Type} {M : Model} {st st' : σ} {Q : PUnit → σ → Prop} (h : Q ⟨⟩ st') : wpS M A E s (set st' : StateT σ Sem PUnit) Q st := by
  unfold wpS; rw [StateT.run_set]; exact wpAny_pure ⟨rfl, h⟩
/-- a list laid over a part of an array -/
theorem laid_at : ∀ (L : List Keyed) (n base : Nat) (xs : Array Keyed), base + n + L.length ≤ xs.size → ∀ k, ((L.zipIdx n).foldl (fun a (v, j) => a.setIfInBounds (base + j) v) xs)[k]? = if base + n ≤ k ∧ k < base + n + L.length then L[k - (base + n)]? else xs[k]?
  | [], n, base, xs, h, k => by
    rw [if_neg (by simp)]; rfl
  | v :: L, n, base, xs, h, k => by
    rw [List.zipIdx_cons, List.foldl_cons]
    simp only [List.length_cons] at h ⊢
    rw [laid_at L (n + 1) base _ (by simp; omega) k]
    by_cases c : base + n = k
    · subst c
      rw [if_neg (by omega), if_pos (by omega), Nat.sub_self, Array.getElem?_setIfInBounds_self_of_lt (by omega)]; rfl
    · by_cases d : base + (n + 1) ≤ k ∧ k < base + (n + 1) + L.length
      · rw [if_pos d, if_pos (by (clear h c; omega)), show k - (base + n) = (k - (base + (n + 1))) + 1 by (clear h c; omega)]; rfl
      · rw [if_neg d, if_neg (by (clear h; omega)), Array.getElem?_setIfInBounds_ne c]
theorem K_ge {xs : Array Keyed} {i : Nat} {x : Keyed} (h : xs[i]? = some x) : K xs i = kq x := by unfold K kq; rw [h]
theorem K_none {xs ys : Array Keyed} {i j : Nat} (h : xs[i]? = ys[j]?) : K xs i = K ys j := K_congr h
theorem wpS_mergeAt {i p m u q n u2 : Nat} {Q : Bool → SortSt → Prop} (h0 : IntKeys a₀) (hB : SB a₀ pd st) (e1 : pd[i]? = some (p, m, u)) (e2 : pd[i + 1]? = some (q, n, u2)) (hq : q = p + m) (hm : 1 ≤ m) (hn : 1 ≤ n) (hsz : q + n ≤ a₀.size) (r1 : RunAt (arrOf st) p m) (r2 : RunAt (arrOf st) q n)
    (h : ∀ st', SB a₀ ((pd.setIfInBounds i (p, m + n, u)).eraseIdxIfInBounds (i + 1)) st' → RunAt (arrOf st') p (m + n) → (∀ j, j < p ∨ q + n ≤ j → K (arrOf st') j = K (arrOf st) j) → Q true st') : wpS (model prog w) A E s (mergeAt' i) Q st := by
  subst hq
  rw [mergeAt'_eq]
  refine wpS_bind (wpS_get ?_)
  rw [hB.pend, e1, e2]
  dsimp only
  refine wpS_bind (wpS_set ?_)
  have hB1 : SB a₀ ((pd.setIfInBounds i (p, m + n, u)).eraseIdxIfInBounds (i + 1)) (SortSt.mk' (kindOf st) (arrOf st) ((pd.setIfInBounds i (p, m + n, u)).eraseIdxIfInBounds (i + 1)) (gallopOf st) (failedOf st)) := ⟨hB.perm, hB.kind, hB.failed, rfl⟩
  have ea : arrOf (SortSt.mk' (kindOf st) (arrOf st) ((pd.setIfInBounds i (p, m + n, u)).eraseIdxIfInBounds (i + 1)) (gallopOf st) (failedOf st)) = arrOf st := rfl
  have hsize := hB.size
  have hBp := hB.perm
  have hik : ∀ x ∈ (arrOf st).toList, IK x := fun x hx => h0 x ((Array.perm_iff_toList_perm.mp hB.perm).mem_iff.mp hx)
  generalize hst1 : SortSt.mk' (kindOf st) (arrOf st) ((pd.setIfInBounds i (p, m + n, u)).eraseIdxIfInBounds (i + 1)) (gallopOf st) (failedOf st) = st1 at hB1 ea ⊢
  generalize harr : arrOf st = arr at *
  generalize hpd : (pd.setIfInBounds i (p, m + n, u)).eraseIdxIfInBounds (i + 1) = pd' at *
  have at_ : ∀ j, j < arr.size → ∃ x, arr[j]? = some x ∧ arr.toList[j]? = some x ∧ IK x ∧ kq x = K arr j := fun j hj => by
    obtain ⟨x, x1, x2⟩ := at_arr hj
    exact ⟨x, x1, x2, hik x (List.mem_of_getElem? x2), (K_ge x1).symm⟩
  obtain ⟨b0, b1, b2, b3, b4⟩ := at_ (p + m) (by omega)
  refine wpS_bind (wpS_elem b1 ?_)
  refine wpS_bind (wpS_gallop hB1.kind b3 hm (by omega) hik r1 fun k hk g1 g2 => ?_)
  simp only [Bool.false_eq_true, if_false, b4] at g1 g2
  dsimp only
  have r2' : ∀ i j, i ≤ j → j < n → K arr (p + m + i) ≤ K arr (p + m + j) := r2
  by_cases c1 : m - k = 0
  · rw [if_pos (by simpa using c1)]
    refine wpS_pure (h st1 hB1 (fun i j hij hj => ?_) fun j _ => by rw [ea])
    rw [ea]
    by_cases d1 : j < m
    · exact r1 i j hij d1
    · have hj1 := r2' 0 (j - m) (by (clear hm hn hsz hsize hik h at_ b4 hk g1 g2 r2' c1 hij hj d1; omega)) (by (clear hm hn hsz hsize hik h at_ b4 hk g1 g2 r2' c1 hij; omega))
      rw [Nat.add_zero, show p + m + (j - m) = p + j by (clear hm hn hsz hsize hik h at_ b4 hk g1 g2 r2' c1 hij hj1 hj; omega)] at hj1
      by_cases d2 : i < m
      · exact Int.le_trans (g1 i (by (clear hm hn hsz hsize hik h at_ b4 hk g1 g2 r2' hj d1 hij hj1; omega))) hj1
      · have := r2' (i - m) (j - m) (by (clear hm hn hsz hsize hik h at_ b4 hk hj d1 hj1 d2 g1 g2 r2' c1; omega)) (by (clear hm hn hsz hsize hik h at_ b4 hk g1 g2 r2' c1 hij d2 hj1; omega))
        rw [show p + m + (i - m) = p + i by (clear hm hn hsz hsize hik h at_ b4 hk g1 g2 r2' c1 hij hj this d1 hj1; omega), show p + m + (j - m) = p + j by (clear hm hn hsz hsize hik h at_ b4 hk g1 g2 r2' c1 hij hj this d2 hj1; omega)] at this
        exact this
  rw [if_neg (by simpa using c1)]
  obtain ⟨l0, l1, l2, l3, l4⟩ := at_ (p + k + (m - k) - 1) (by omega)
  refine wpS_bind (wpS_elem l1 ?_)
  refine wpS_bind (wpS_gallop hB1.kind l3 (by (clear b4 hk g1 g2 r2' c1 l4 hik h at_ hsz hsize hm; omega)) (by omega) hik r2' fun n' hn' g3 g4 => ?_)
  rw [show p + k + (m - k) - 1 = p + (m - 1) by omega] at l4
  simp only [if_true, l4] at g3 g4
  dsimp only
  by_cases c2 : n' = 0
  · rw [if_pos (by simpa using c2)]
    refine wpS_pure (h st1 hB1 (fun i j hij hj => ?_) fun j _ => by rw [ea])
    rw [ea]
    by_cases d1 : j < m
    · exact r1 i j hij d1
    · by_cases d2 : i < m
      · have h3 := g4 (j - m) (by (clear hm hn hsz hsize hik h at_ b4 hk g1 g2 r2' c1 l4 hn' g3 g4 d1 d2 hj hij; omega)) (by (clear hm hn hsz hsize hik h at_ b4 hk g1 g2 r2' c1 l4 hn' g3 g4 c2 hij d2; omega))
        rw [show p + m + (j - m) = p + j by (clear hm hn hsz hsize hik h at_ b4 hk g1 g2 r2' c1 l4 hn' g3 g4 c2 d2 h3 hij hj; omega)] at h3
        exact Int.le_trans (r1 i (m - 1) (by (clear hm hn hsz hsize hik h at_ b4 hk g1 g2 r2' c1 l4 hn' g3 g4 c2 hij hj d1 h3; omega)) (by (clear hm hn hsz hsize hik h at_ b4 hk g1 g2 r2' c1 l4 hn' g3 g4 c2 hij hj d1 h3; omega))) h3
      · have := r2' (i - m) (j - m) (by (clear hm hn hsz hsize hik h at_ b4 hk g1 g2 r2' c1 l4 hn' g3 g4 d1 d2 hj c2; omega)) (by (clear hm hn hsz hsize hik h at_ b4 hk g1 g2 r2' c1 l4 hn' g3 g4 c2 hij d2; omega))
        rw [show p + m + (i - m) = p + i by (clear hm hn hsz hsize hik h at_ b4 hk g1 g2 r2' c1 l4 hn' g3 g4 c2 hij hj d1 this; omega), show p + m + (j - m) = p + j by (clear hm hn hsz hsize hik h at_ b4 hk g1 g2 r2' c1 l4 hn' g3 g4 c2 d2 this hij hj; omega)] at this
        exact this
  rw [if_neg (by simpa using c2)]
  have exl : ∀ a b, (arr.extract a b).toList = (arr.toList.drop a).take (b - a) := fun a b => by rw [Array.toList_extract, List.extract_eq_take_drop]
  have exm : ∀ a b x, x ∈ (arr.extract a b).toList → ∃ j, a ≤ j ∧ j < b ∧ arr.toList[j]? = some x ∧ kq x = K arr j := fun a b x hx => by
    rw [exl] at hx
    obtain ⟨j, hj, e⟩ := mem_cut hx
    exact ⟨a + j, by (clear hm hn hsz hsize hik h at_ b4 hk g1 g2 r2' c1 l4 hn' g3 g4 c2 exl hj; omega), by (clear hm hn hsz hsize hik h at_ b4 hk g1 g2 r2' c1 l4 hn' g3 g4 c2 exl; omega), e, (K_of e).symm⟩
  have exs : ∀ a b, (∀ i j, a ≤ i → i ≤ j → j < b → K arr i ≤ K arr j) → Srt (arr.extract a b).toList := fun a b hr => by
    rw [exl]
    refine List.pairwise_iff_getElem.mpr fun i j hi hj hij => ?_
    simp only [List.length_take, List.length_drop, Array.length_toList] at hi hj
    rw [List.getElem_take, List.getElem_drop, List.getElem_take, List.getElem_drop]
    have x1 : arr.toList[a + i]? = some (arr.toList[a + i]'(by simp; (clear hm hn hsz hsize hik h at_ b4 hk g1 g2 r2' c1 l4 hn' g3 g4 c2 exl exm hr hj hij; omega))) := List.getElem?_eq_getElem _
    have x2 : arr.toList[a + j]? = some (arr.toList[a + j]'(by simp; omega)) := List.getElem?_eq_getElem _
    unfold LE
    rw [← K_of x1, ← K_of x2]
    exact hr _ _ (by omega) (by omega) (by omega)
  have r1' : ∀ i j, p ≤ i → i ≤ j → j < p + m → K arr i ≤ K arr j := fun i j h1 h2 h3 => by
    have := r1 (i - p) (j - p) (by (clear hm hn hsz hsize hik h at_ b4 hk g1 g2 r2' c1 l4 hn' g3 g4 c2 exl exm exs h3 h1; omega)) (by (clear hm hn hsz hsize hik h at_ b4 hk g1 g2 r2' c1 l4 hn' g3 g4 c2 exl exm exs; omega))
    rw [show p + (i - p) = i by (clear hm hn hsz hsize hik h at_ b4 hk g1 g2 r2' c1 l4 hn' g3 g4 c2 exl exm this h2 h3 exs; omega), show p + (j - p) = j by (clear hm hn hsz hsize hik h at_ b4 hk g1 g2 r2' c1 l4 hn' g3 g4 c2 exl exm this exs h3; omega)] at this
    exact this
  have r3' : ∀ i j, p + m ≤ i → i ≤ j → j < p + m + n → K arr i ≤ K arr j := fun i j h1 h2 h3 => by
    have := r2' (i - (p + m)) (j - (p + m)) (by (clear hm hn hsz hsize hik h at_ b4 hk g1 g2 r2' c1 l4 hn' g3 g4 c2 exl exm h3 exs r1' h1; omega)) (by (clear hm hn hsz hsize hik h at_ b4 hk g1 g2 r2' c1 l4 hn' g3 g4 c2 exl exm exs r1'; omega))
    rw [show p + m + (i - (p + m)) = i by (clear hm hn hsz hsize hik h at_ b4 hk g1 g2 r2' c1 l4 hn' g3 g4 c2 exl exm h3 this exs r1' h2; omega), show p + m + (j - (p + m)) = j by (clear hm hn hsz hsize hik h at_ b4 hk g1 g2 r2' c1 l4 hn' g3 g4 c2 exl exm h3 this exs r1'; omega)] at this
    exact this
  have hx : MPre (arr.extract (p + k) (p + m)) (arr.extract (p + m) (p + m + n')) := by
    refine ⟨exs _ _ fun i j h1 h2 h3 => r1' i j (by (clear hm hn hsz hsize hik h at_ b4 hk g1 g2 r2' c1 l4 hn' g3 g4 c2 exl exm h2 h3 exs r1' r3'; omega)) h2 h3, exs _ _ fun i j h1 h2 h3 => r3' i j h1 h2 (by (clear hm hn hsz hsize hik h at_ b4 hk g1 g2 r2' c1 c2 exl exm exs r1' r3' h1 h2 g3 g4 l4; omega)), fun x hx => ?_, fun x hx => ?_, by simp; (clear at_ b4 hk g1 g2 r2' exl exm exs r1' r3' g3 g4 c2 hm hn hik h hn' l4; omega), by simp; (clear at_ b4 hk g1 g2 r2' exl exm exs r1' r3' c1 l4 hn' hik h g3 g4 hm; omega), fun x hx y hy => ?_, fun y hy x hx => ?_⟩
    · obtain ⟨j, _, _, e, _⟩ := exm _ _ x hx
      exact hik x (List.mem_of_getElem? e)
    · obtain ⟨j, _, _, e, _⟩ := exm _ _ x hx
      exact hik x (List.mem_of_getElem? e)
    · obtain ⟨j, j1, j2, e, ek⟩ := exm _ _ x hx
      have hy' : arr.toList[p + m]? = some y := by
        rw [exl, List.getElem?_take] at hy
        split at hy
        · rw [List.getElem?_drop] at hy; exact hy
        · cases hy
      unfold LE
      rw [← K_of hy', ek]
      have := g2 (j - p) (by (clear hm hn hsz hsize hik h at_ b4 hk g1 g2 r2' c1 l4 hn' g3 g4 c2 exl exm j2 ek exs r1' r3'; omega)) (by (clear hm hn hsz hsize hik h at_ b4 hk g1 g2 r2' c1 l4 hn' g3 g4 c2 exl exm exs r1' r3' ek; omega))
      rw [show p + (j - p) = j by (clear hm hn hsz hsize hik h at_ b4 hk g1 g2 r2' c1 l4 hn' g3 g4 c2 exl exm exs ek this r1' r3' j2; omega)] at this
      (clear hm hn hsz hsize hik h at_ b4 hk g1 g2 r2' c1 l4 hn' g3 g4 c2 exl exm exs r1' r3' j1 j2 ek; omega)
    · obtain ⟨j, j1, j2, e, ek⟩ := exm _ _ y hy
      have hx' : arr.toList[p + (m - 1)]? = some x := by
        rw [exl, List.getElem?_take] at hx
        split at hx
        · rw [List.getElem?_drop] at hx
          have hs : (arr.extract (p + k) (p + m)).size = m - k := by simp; omega
          rw [hs, show p + k + (m - k - 1) = p + (m - 1) by (clear hm hn hsz hsize hik h at_ b4 hk g1 g2 r2' c1 l4 hn' g3 g4 c2 exl exm exs r1' r3' j1 j2 ek hs; omega)] at hx
          exact hx
        · cases hx
      unfold LE
      rw [ek, ← K_of hx']
      have := g3 (j - (p + m)) (by (clear hm hn hsz hsize hik h at_ b4 hk g1 g2 r2' c1 l4 hn' g3 g4 c2 exl exm exs r1' r3' ek; omega))
      rw [show p + m + (j - (p + m)) = j by (clear hm hn hsz hsize hik h at_ b4 hk g1 g2 r2' c1 l4 hn' g3 g4 c2 exl exm exs ek this r1' r3' j2; omega)] at this
      (clear hm hn hsz hsize hik h at_ b4 hk g1 g2 r2' c1 l4 hn' g3 g4 c2 exl exm exs r1' r3' j1 j2 ek; omega)
  have fin : ∀ out st2, MEnd (arr.extract (p + k) (p + m)) (arr.extract (p + m) (p + m + n')) st1 out st2 → wpS (model prog w) A E s (do
      modify fun s => setArr s (out.toList.zipIdx.foldl (fun a (v, j) => a.setIfInBounds (p + k + j) v) (arrOf s))
      return (failedOf (← get)).isNone) Q st2 := fun out st2 ⟨pm, so, q⟩ => by
    have hl : out.toList.length = m - k + n' := by
      rw [pm.length_eq, List.length_append, exl, exl]; simp; omega
    have hl2 : out.size = m - k + n' := by rw [← Array.length_toList]; exact hl
    refine wpS_bind (wpS_modify (wpS_bind (wpS_get ?_)))
    have e2 : arrOf st2 = arr := q.arr.trans ea
    have lay := laid_at out.toList 0 (p + k) arr (by (clear hik h at_ b4 hk g1 g2 r2' g4 c2 exl exm hl2 hm hn exs r1' l4 g3 r3'; omega))
    rw [e2]
    have hf : failedOf (setArr st2 (List.foldl (fun a (x : Keyed × Nat) => a.setIfInBounds (p + k + x.2) x.1) arr out.toList.zipIdx)) = none := q.fail.trans hB1.failed
    generalize hnew : List.foldl (fun a (x : Keyed × Nat) => a.setIfInBounds (p + k + x.2) x.1) arr out.toList.zipIdx = new at hf
    have lay : ∀ j, new[j]? = if p + k ≤ j ∧ j < p + m + n' then out.toList[j - (p + k)]? else arr[j]? := fun j => by
      have := lay j
      rw [Nat.add_zero, hl, show p + k + (m - k + n') = p + m + n' by omega] at this
      rw [← hnew]; exact this
    have hlist : new.toList = arr.toList.take (p + k) ++ out.toList ++ arr.toList.drop (p + m + n') := by
      apply List.ext_getElem?
      intro j
      rw [Array.getElem?_toList, lay j]
      by_cases c : p + k ≤ j ∧ j < p + m + n'
      · rw [if_pos c, List.append_assoc, List.getElem?_append_right (by simp; (clear hm hn hsz hsize hik h at_ b4 hk g1 g2 r2' c1 l4 hn' g3 g4 c2 exl exm exs r1' r3' hl hl2 lay; omega)), List.getElem?_append_left (by simp; (clear b4 hk g1 g2 r2' c1 l4 hn' g3 g4 c2 exl exm exs hik h at_ r1' hm hn r3' hl lay; omega))]
        congr 1; simp; (clear hn' g3 g4 c2 exl exm exs r1' r3' hl hl2 lay c hik h at_ b4 hk g1 g2 r2' hm hn l4; omega)
      · rw [if_neg c]
        by_cases d : j < p + k
        · rw [List.append_assoc, List.getElem?_append_left (by simp; omega), List.getElem?_take, if_pos d, Array.getElem?_toList]
        · rw [List.getElem?_append_right (by simp; (clear hm hn hsz hsize hik h at_ hn' g3 g4 c2 exl exm exs b4 hk g1 g2 l4 r1' r3' hl r2' lay; omega)), List.getElem?_drop, Array.getElem?_toList]
          congr 1; simp; omega
    have hperm : new.Perm arr := by
      rw [Array.perm_iff_toList_perm, hlist]
      have h1 : arr.toList = arr.toList.take (p + k) ++ ((arr.extract (p + k) (p + m)).toList ++ (arr.extract (p + m) (p + m + n')).toList) ++ arr.toList.drop (p + m + n') := by
        have t1 := (List.take_append_drop (p + k) arr.toList).symm
        have t2 : arr.toList.drop (p + k) = (arr.toList.drop (p + k)).take (m - k) ++ arr.toList.drop (p + m) := by
          have := (List.take_append_drop (m - k) (arr.toList.drop (p + k))).symm
          rw [List.drop_drop, show p + k + (m - k) = p + m by omega] at this
          exact this
        have t3 : arr.toList.drop (p + m) = (arr.toList.drop (p + m)).take n' ++ arr.toList.drop (p + m + n') := by
          have := (List.take_append_drop n' (arr.toList.drop (p + m))).symm
          rw [List.drop_drop] at this
          exact this
        rw [exl, exl, show p + m - (p + k) = m - k by omega, show p + m + n' - (p + m) = n' by (clear hm hn hsz hsize hik h at_ b4 hk g1 g2 r2' c1 l4 hn' g3 g4 c2 exl exm exs r1' r3' hl hl2 lay; omega)]
        rw [t3] at t2
        rw [t2] at t1
        rw [List.append_assoc, List.append_assoc]
        exact t1
      refine List.Perm.trans ?_ (List.Perm.of_eq h1.symm)
      exact (pm.append_left _).append_right _
    have Kout : ∀ j, p + k ≤ j → j < p + m + n' → ∃ x, out.toList[j - (p + k)]? = some x ∧ K new j = kq x := fun j h1 h2 => by
      obtain ⟨x, ex⟩ : ∃ x, out.toList[j - (p + k)]? = some x := ⟨out.toList[j - (p + k)]'(by (clear hm hn hsz hsize hik h at_ b4 hk g1 g2 r2' c1 l4 hn' g3 g4 c2 exl exm exs r1' r3' hl2 lay; omega)), List.getElem?_eq_getElem _⟩
      refine ⟨x, ex, K_ge ?_⟩
      rw [lay j, if_pos ⟨h1, h2⟩, ex]
    have Kold : ∀ j, ¬(p + k ≤ j ∧ j < p + m + n') → K new j = K arr j := fun j h1 => K_none (by rw [lay j, if_neg h1])
    have Kmem : ∀ j, p + k ≤ j → j < p + m + n' → ∃ t, K new j = K arr t ∧ ((p + k ≤ t ∧ t < p + m) ∨ (p + m ≤ t ∧ t < p + m + n')) := fun j h1 h2 => by
      obtain ⟨x, ex, ek⟩ := Kout j h1 h2
      rcases List.mem_append.mp (pm.mem_iff.mp (List.mem_of_getElem? ex)) with z | z
      · obtain ⟨t, t1, t2, _, t4⟩ := exm _ _ x z
        exact ⟨t, by rw [ek, t4], .inl ⟨t1, t2⟩⟩
      · obtain ⟨t, t1, t2, _, t4⟩ := exm _ _ x z
        exact ⟨t, by rw [ek, t4], .inr ⟨t1, t2⟩⟩
    refine wpS_pure ?_
    show Q (failedOf (setArr st2 new)).isNone (setArr st2 new)
    rw [hf]
    have hr : ∀ i j, p ≤ i → i ≤ j → j < p + m + n → K new i ≤ K new j := fun i j h1 h2 h3 => by
      -- what lies ahead is below each of the merged, what lies behind above
      have lowK : ∀ i t, p ≤ i → i < p + k → ((p + k ≤ t ∧ t < p + m) ∨ (p + m ≤ t ∧ t < p + m + n)) → K arr i ≤ K arr t := fun i t a1 a2 a3 => by
        rcases a3 with ⟨a3, a4⟩ | ⟨a3, a4⟩
        · exact r1' i t a1 (by (clear hm hn hsz hsize hik h at_ b4 hk g1 g2 r2' c1 l4 hn' g3 g4 c2 exl exm exs r1' r3' hl hl2 lay Kout Kold Kmem h1 h2 h3 a4 a1; omega)) a4
        · have h4 := g1 (i - p) (by (clear hm hn hsz hsize hik h at_ b4 hk g1 g2 r2' c1 l4 hn' g3 g4 c2 exl exm exs r1' r3' hl hl2 lay Kout Kold Kmem h1 h2 h3 a4 a3; omega))
          rw [show p + (i - p) = i by (clear hm hn hsz hsize hik h at_ b4 hk g1 g2 r2' c1 l4 hn' g3 g4 c2 exl exm exs r1' r3' hl hl2 lay Kout Kold Kmem a3 a4 h4 h1 h2 h3 a2; omega)] at h4
          exact Int.le_trans h4 (r3' (p + m) t (Nat.le_refl _) a3 a4)
      have highK : ∀ t j, p + m + n' ≤ j → j < p + m + n → ((p + k ≤ t ∧ t < p + m) ∨ (p + m ≤ t ∧ t < p + m + n')) → K arr t ≤ K arr j := fun t j a1 a2 a3 => by
        rcases a3 with ⟨a3, a4⟩ | ⟨a3, a4⟩
        · have h4 := g4 (j - (p + m)) (by (clear hm hn hsz hsize hik h at_ b4 hk g1 g2 r2' c1 l4 hn' g3 g4 c2 exl exm exs r1' r3' hl hl2 lay Kout Kold Kmem a2 a3 a4 h1 h2 h3 lowK; omega)) (by (clear hm hn hsz hsize hik h at_ b4 hk g1 g2 r2' c1 l4 hn' g3 g4 c2 exl exm exs r1' r3' hl hl2 lay Kout Kold Kmem h1 h2 h3 a3 a4 lowK; omega))
          rw [show p + m + (j - (p + m)) = j by (clear hm hn hsz hsize hik h at_ b4 hk g1 g2 r2' c1 l4 hn' g3 g4 c2 exl exm exs r1' r3' hl hl2 lay Kout Kold Kmem a2 a3 a4 h4 h1 h2 h3 lowK; omega)] at h4
          exact Int.le_trans (r1' t (p + (m - 1)) (by (clear hm hn hsz hsize hik h at_ b4 hk g1 g2 r2' c1 l4 hn' g3 g4 c2 exl exm exs r1' r3' hl hl2 lay Kout Kold Kmem h1 h2 h3 lowK a1 h4 a4 a2; omega)) (by (clear hm hn hsz hsize hik h at_ b4 hk g1 g2 r2' c1 l4 hn' g3 g4 c2 exl exm exs r1' r3' hl hl2 lay Kout Kold Kmem h1 h2 h3 lowK a1 h4 a2 a3; omega)) (by omega)) h4
        · exact r3' t j a3 (by (clear hm hn hsz hsize hik h at_ b4 hk g1 g2 r2' c1 l4 hn' g3 g4 c2 exl exm exs r1' r3' hl hl2 lay Kout Kold Kmem h1 h2 h3 a2 a3 lowK; omega)) a2
      by_cases i1 : i < p + k
      · rw [Kold i (by (clear hm hn hsz hsize hik h at_ b4 hk g1 g2 r2' c1 l4 hn' g3 g4 c2 exl exm exs r1' r3' hl hl2 lay Kout Kold Kmem h1 h2 h3 lowK highK; omega))]
        by_cases j1 : j < p + k
        · rw [Kold j (by (clear hm hn hsz hsize hik h at_ b4 hk g1 g2 r2' c1 l4 hn' g3 g4 c2 exl exm exs r1' r3' hl hl2 lay Kout Kold Kmem h1 h2 h3 lowK highK i1; omega))]; exact r1' i j h1 h2 (by omega)
        · by_cases j2 : j < p + m + n'
          · obtain ⟨t, et, ht⟩ := Kmem j (by (clear hm hn hsz hsize hik h at_ b4 hk g1 g2 r2' c1 l4 hn' g3 g4 c2 exl exm exs r1' r3' hl hl2 lay Kout Kold Kmem h1 h2 h3 lowK highK j2 i1; omega)) j2
            rw [et]
            exact lowK i t h1 i1 (ht.imp id fun z => ⟨z.1, by (clear hm hn hsz hsize hik h at_ b4 hk g1 exs r1' r3' hl hl2 lay Kout Kold Kmem h1 g3 g4 c2 exl exm h2 h3 lowK highK i1 g2 r2' c1 j2 et ht l4 j1; omega)⟩)
          · rw [Kold j (by (clear hm hn hsz hsize hik h at_ b4 hk g1 g2 r2' c1 l4 hn' g3 g4 c2 exl exm exs r1' r3' hl hl2 lay Kout Kold Kmem h1 h2 h3 lowK highK i1 j1; omega))]
            exact lowK i j h1 i1 (.inr ⟨by (clear hm hn hsz hsize hik h at_ b4 hk g1 g2 r2' c1 l4 hn' g3 g4 c2 exl exm exs r1' r3' hl hl2 lay Kout Kold Kmem h1 h2 h3 lowK highK i1 j1; omega), h3⟩)
      · by_cases i2 : i < p + m + n'
        · by_cases j2 : j < p + m + n'
          · obtain ⟨x, ex, ek⟩ := Kout i (by (clear hm hn hsz hsize hik h at_ b4 hk g1 g2 r2' c1 l4 hn' g3 g4 c2 exl exm exs r1' r3' hl hl2 lay Kout Kold Kmem h1 h2 h3 lowK highK j2 i2; omega)) i2
            obtain ⟨y, ey, ek2⟩ := Kout j (by (clear hm hn hsz hsize hik h at_ b4 hk g1 g2 r2' c1 l4 hn' g3 g4 c2 exl exm exs r1' r3' hl hl2 lay Kout Kold Kmem i2 j2 ek h3 lowK h1 highK; omega)) j2
            rw [ek, ek2]
            exact srt_at so (by (clear hm hn hsz hsize hik h at_ b4 hk g1 g2 r2' c1 l4 hn' g3 g4 c2 exl exm exs r1' r3' hl hl2 lay Kout Kold Kmem h1 i2 j2 ek ek2 highK i1 lowK h3; omega)) ex ey
          · obtain ⟨t, et, ht⟩ := Kmem i (by (clear hm hn hsz hsize hik h at_ b4 hk g1 g2 r2' c1 l4 hn' g3 g4 c2 exl exm exs r1' r3' hl hl2 lay Kout Kold Kmem h1 h2 h3 lowK highK j2 i2; omega)) i2
            rw [et, Kold j (by (clear hm hn hsz hsize hik h at_ b4 hk g1 g2 r2' c1 l4 hn' g3 g4 c2 exl exm exs r1' r3' hl hl2 lay Kout Kold Kmem h1 h2 h3 lowK highK i1 ht et i2; omega))]
            exact highK t j (by (clear hm hn hsz hsize hik h at_ b4 hk g1 g2 r2' c1 l4 hn' g3 g4 c2 exl exm exs r1' r3' hl hl2 lay Kout Kold Kmem h1 h2 h3 lowK highK i1 ht et i2; omega)) h3 ht
        · rw [Kold i (by (clear hm hn hsz hsize hik h at_ b4 hk g1 g2 r2' c1 l4 hn' g3 g4 c2 exl exm exs r1' r3' hl hl2 lay Kout Kold Kmem h1 h2 h3 lowK highK i1; omega)), Kold j (by (clear hm hn hsz hsize hik h at_ b4 hk g1 g2 r2' c1 l4 hn' g3 g4 c2 exl exm exs r1' r3' hl hl2 lay Kout Kold Kmem h1 lowK highK h3 i1; omega))]
          exact r3' i j (by (clear hm hn hsz hsize hik h at_ b4 hk g1 g2 r2' c1 l4 hn' g3 g4 c2 exl exm exs r1' r3' hl hl2 lay Kout Kold Kmem h1 h2 h3 lowK highK i1; omega)) h2 h3
    refine h (setArr st2 new) ⟨hperm.trans hBp, q.kind.trans hB1.kind, q.fail.trans hB1.failed, q.pend.trans hB1.pend⟩ (fun i j hij hj => hr _ _ (by (clear hm hn hsz hsize hik h at_ b4 hk g1 g2 r2' c1 l4 hn' g3 g4 c2 exl exm exs r1' r3' hl hl2 lay Kout Kold Kmem hr hij hj; omega)) (by (clear hm hn hsz hsize hik h at_ b4 hk g1 g2 r2' c1 l4 hn' g3 g4 c2 exl exm exs r1' r3' hl hl2 lay Kout Kold Kmem hr hj; omega)) (by (clear hm hn hsz hsize hik h at_ b4 hk g1 g2 r2' c1 l4 hn' g3 g4 c2 exl exm exs r1' r3' hl hl2 lay Kout Kold Kmem hr hij; omega))) fun j hj => Kold j (by (clear hm hn hsz hsize hik h at_ b4 g4 c2 exl exm exs r1' r3' hl hk g1 g2 r2' hl2 lay Kout Kold c1 l4 Kmem hr g3; omega))
  by_cases c3 : m - k ≤ n'
  · rw [if_pos c3]
    exact wpS_bind (wpS_mergeLo hB1.kind hx fin)
  · rw [if_neg c3]
    exact wpS_bind (wpS_mergeHi hB1.kind hx fin)
end
end L2

set_option Elab.async false
set_option linter.all false
namespace L2
open PySem PyProof.Rows
abbrev Pd := Nat × Nat × Nat
/-- the runs that wait, one behind the other from s to e -/
def Chn (xs : Array Keyed) : Nat → List Pd → Nat → Prop
  | s, [], e => s = e
  | s, (p, n, _) :: r, e => p = s ∧ 1 ≤ n ∧ RunAt xs s n ∧ Chn xs (s + n) r e
theorem Chn.le {xs : Array Keyed} : ∀ {l : List Pd} {s e : Nat}, Chn xs s l e → s + l.length ≤ e
  | [], s, e, h => by cases h; simp
  | (p, n, u) :: r, s, e, h => by
    obtain ⟨_, h1, _, h2⟩ := h
    have := h2.le
    simp only [List.length_cons]
    omega
theorem Chn.congr {xs ys : Array Keyed} : ∀ {l : List Pd} {s e : Nat}, Chn xs s l e → (∀ j, s ≤ j → j < e → K ys j = K xs j) → Chn ys s l e
  | [], s, e, h, _ => h
  | (p, n, u) :: r, s, e, h, k => by
    obtain ⟨h0, h1, h2, h3⟩ := h
    have := h3.le
    refine ⟨h0, h1, fun i j hij hj => ?_, h3.congr fun j a b => k j (by (clear k h0 h1 b this; omega)) b⟩
    rw [k _ (by (clear k h0 h1 this hij hj; omega)) (by omega), k _ (by (clear k h0 h1 this hij hj; omega)) (by omega)]
    exact h2 i j hij hj
theorem Chn.snoc {xs : Array Keyed} : ∀ {l : List Pd} {s e : Nat}, Chn xs s l e → ∀ {n u : Nat}, 1 ≤ n → RunAt xs e n → Chn xs s (l ++ [(e, n, u)]) (e + n)
  | [], s, e, h, n, u, h1, h2 => by cases h; exact ⟨rfl, h1, h2, rfl⟩
  | (p, m, v) :: r, s, e, h, n, u, h1, h2 => by
    obtain ⟨a0, a1, a2, a3⟩ := h
    exact ⟨a0, a1, a2, a3.snoc h1 h2⟩
/-- two neighbours in the chain -/
theorem Chn.two {xs : Array Keyed} : ∀ {l : List Pd} {s e i : Nat}, Chn xs s l e → i + 1 < l.length → ∃ p m u n u2, l[i]? = some (p, m, u) ∧ l[i + 1]? = some (p + m, n, u2) ∧ 1 ≤ m ∧ 1 ≤ n ∧ RunAt xs p m ∧ RunAt xs (p + m) n ∧ s ≤ p ∧ p + m + n ≤ e ∧
    ∀ ys : Array Keyed, RunAt ys p (m + n) → (∀ j, j < p ∨ p + m + n ≤ j → K ys j = K xs j) → Chn ys s ((l.set i (p, m + n, u)).eraseIdx (i + 1)) e
  | [], s, e, i, h, hl => by simp at hl
  | [_], s, e, i, h, hl => by simp at hl
  | (p, m, u) :: (q, n, u2) :: r, s, e, 0, h, hl => by
    obtain ⟨rfl, a1, a2, rfl, a3, a4, a5⟩ := h
    have := a5.le
    refine ⟨p, m, u, n, u2, rfl, rfl, a1, a3, a2, a4, Nat.le_refl _, by omega, fun ys hr hk => ?_⟩
    refine ⟨rfl, by omega, hr, ?_⟩
    rw [show p + (m + n) = p + m + n by omega]
    exact a5.congr fun j h1 h2 => hk j (.inr h1)
  | (p, m, u) :: x :: r, s, e, i + 1, h, hl => by
    obtain ⟨a0, a1, a2, a3⟩ := h
    obtain ⟨p', m', u', n', u2', b1, b2, b3, b4, b5, b6, b7, b8, b9⟩ := a3.two (i := i) (by simpa using hl)
    refine ⟨p', m', u', n', u2', by simpa using b1, by simpa using b2, b3, b4, b5, b6, by (clear hl a0 a1 b3 b8 b9 b4; omega), b8, fun ys hr hk => ?_⟩
    have := b9 ys hr hk
    refine ⟨a0, a1, fun i j hij hj => ?_, this⟩
    rw [hk _ (.inl (by (clear hl a0 a1 b8 b9 hk b3 b4; omega))), hk _ (.inl (by (clear hl a0 a1 b8 b9 hk b3 b4 hij; omega)))]
    exact a2 i j hij hj
theorem Chn.powers {xs : Array Keyed} : ∀ {l : List Pd} {s e : Nat} (k : Nat) (w : Nat), Chn xs s l e → Chn xs s (l.modify k fun y => (y.1, y.2.1, w)) e
  | [], s, e, k, w, h => by simpa using h
  | (p, n, u) :: r, s, e, 0, w, h => h
  | (p, n, u) :: r, s, e, k + 1, w, h => by
    obtain ⟨h0, h1, h2, h3⟩ := h
    simp only [List.modify_succ_cons]
    exact ⟨h0, h1, h2, h3.powers k w⟩
theorem pend_list (pd : Array Pd) (i : Nat) (x : Pd) : ((pd.setIfInBounds i x).eraseIdxIfInBounds (i + 1)).toList = (pd.toList.set i x).eraseIdx (i + 1) := by
  rw [Array.toList_eraseIdxIfInBounds, Array.toList_setIfInBounds]
theorem pend_mod (pd : Array Pd) (i : Nat) (f : Pd → Pd) : (pd.modify i f).toList = pd.toList.modify i f := by simp
section
variable {prog : Program} {w : World} {A : Around} {E : Value → Shared → Prop} {s : Shared} {a₀ : Array Keyed} {st : SortSt}
/-- one merge in the chain -/
theorem wpS_mergeChn {pd : Array Pd} {i e : Nat} {Q : Bool → SortSt → Prop} (h0 : IntKeys a₀) (hB : SB a₀ pd st) (hc : Chn (arrOf st) 0 pd.toList e) (he : e ≤ a₀.size) (hi : i + 1 < pd.size)
    (h : ∀ pd' st', SB a₀ pd' st' → Chn (arrOf st') 0 pd'.toList e → pd'.size + 1 = pd.size → (∀ j, e ≤ j → K (arrOf st') j = K (arrOf st) j) → Q true st') : wpS (model prog w) A E s (mergeAt' i) Q st := by
  obtain ⟨p, m, u, n, u2, b1, b2, b3, b4, b5, b6, b7, b8, b9⟩ := hc.two (i := i) (by simpa using hi)
  refine wpS_mergeAt h0 hB (by simpa using b1) (by simpa using b2) rfl b3 b4 (by omega) b5 b6 fun st' hB' hr hk => ?_
  refine h _ st' hB' ?_ ?_ fun j hj => hk j (.inr (by (clear he hi h b3 b4 b9 hk b7; omega)))
  · rw [pend_list]; exact b9 _ hr hk
  · rw [← Array.length_toList, pend_list, List.length_eraseIdx_of_lt (by simpa using hi)]; simp; (clear b7 b8 b9 hk b3 b4 h he; omega)
theorem wpS_runs {Q : Unit → SortSt → Prop} (h0 : IntKeys a₀) (hB : SB a₀ #[] st) (h2 : 1 ≤ a₀.size)
    (h : ∀ st', (arrOf st').Perm a₀ → failedOf st' = none → SortedTo (arrOf st') a₀.size → Q () st') : wpS (model prog w) A E s sortRuns' Q st := by
  rw [sortRuns'_eq]
  refine wpS_bind (wpS_get ?_)
  dsimp only
  simp only [hB.size]
  generalize minRun' a₀.size a₀.size 0 = mr
  refine wpS_bind (wpS_mono (wpS_forRange
    (I := fun x c st' => ∃ lo pd, c = (none, lo) ∧ SB a₀ pd st' ∧ Chn (arrOf st') 0 pd.toList lo ∧ lo ≤ a₀.size ∧ (x ≤ lo))
    (Q := fun c st' => ∃ pd, c = (none, a₀.size) ∧ SB a₀ pd st' ∧ Chn (arrOf st') 0 pd.toList a₀.size) ?step ?fin ⟨0, #[], rfl, hB, rfl, by omega, by omega⟩) ?post)
  case fin =>
    rintro c st' ⟨lo, pd, rfl, hB', hc, h3, h4⟩
    have : lo = a₀.size := by omega
    subst this
    exact ⟨pd, rfl, hB', hc⟩
  case step =>
    rintro x c st' _ hx ⟨lo, pd, rfl, hB', hc, h3, h4⟩
    dsimp only
    by_cases c0 : lo ≥ a₀.size
    · rw [if_pos c0]
      have : lo = a₀.size := by omega
      subst this
      exact wpS_pure ⟨pd, rfl, hB', hc⟩
    rw [if_neg c0]
    refine wpS_bind (wpS_countAt h0 (by omega) (by omega) hB' fun m st2 hB2 hm1 hm2 hs2 ha2 => ?_)
    have hc2 := hc.congr (ys := arrOf st2) fun j _ hj => ha2 j hj
    dsimp only
    by_cases hlt : m < mr
    rw [if_pos hlt]
    refine wpS_bind (wpS_lift (wpAny_rule ⟨rfl, ?_⟩))
    refine wpS_bind (wpS_binAt h0 (by omega) (by (clear h2 h hx h3 h4 c0 hm1; omega)) hB2 hs2 fun st3 hB3 hs3 ha3 => ?_)
    simp only [Bool.not_true, Bool.false_eq_true, if_false]
    have n1 : 1 ≤ min (a₀.size - lo) mr := by (clear h2 h hx h3 h4 c0; omega)
    have n2 : lo + min (a₀.size - lo) mr ≤ a₀.size := by omega
    have hc3 := hc2.congr (ys := arrOf st3) fun j _ hj => ha3 j hj
    generalize min (a₀.size - lo) mr = n at *
    rotate_left
    rw [if_neg hlt]
    have n1 := hm1
    have n2 : lo + m ≤ a₀.size := by omega
    have hB3 := hB2
    have hs3 := hs2
    have hc3 := hc2
    clear hlt hB2 hs2 hc2 ha2
    generalize hm3 : m = n at *
    generalize hst3 : st2 = st3 at *
    all_goals
      refine wpS_bind (wpS_get ?_)
      rw [hB3.pend]
      cases hb : pd.back? with
      | none =>
        dsimp only
        exact wpS_bind (wpS_modify (wpS_pure ⟨lo + n, pd.push (lo, n, 0), rfl, ⟨hB3.perm, hB3.kind, hB3.failed, by show (pendingOf st3).push _ = _; rw [hB3.pend]⟩, by rw [Array.toList_push]; exact hc3.snoc n1 hs3, n2, by omega⟩))
      | some y =>
        obtain ⟨s1, m1, u1⟩ := y
        dsimp only
        generalize power' a₀.size (2 * s1 + m1) (2 * s1 + m1 + m1 + n) a₀.size = pw
        refine wpS_bind (wpS_mono (wpS_forRange (I := fun _ c st4 => c = (none, ()) ∧ ∃ pd4, SB a₀ pd4 st4 ∧ Chn (arrOf st4) 0 pd4.toList lo ∧ RunAt (arrOf st4) lo n) (Q := fun c st4 => c = (none, ()) ∧ ∃ pd4, SB a₀ pd4 st4 ∧ Chn (arrOf st4) 0 pd4.toList lo ∧ RunAt (arrOf st4) lo n) ?_ (fun _ _ z => z) ⟨rfl, pd, hB3, hc3, hs3⟩) ?_)
        · rintro y c st4 _ _ ⟨rfl, pd4, b1, b2, b3⟩
          refine wpS_bind (wpS_get ?_)
          rw [b1.pend]
          by_cases cs : pd4.size > 1
          · rw [if_pos cs]
            obtain ⟨⟨o1, o2, o3⟩, eo⟩ : ∃ o, pd4[pd4.size - 2]? = some o := ⟨pd4[pd4.size - 2]'(by omega), by simp⟩
            rw [eo]
            dsimp only
            by_cases cp : o3 ≤ pw
            · rw [if_pos cp]
              exact wpS_pure ⟨rfl, pd4, b1, b2, b3⟩
            · rw [if_neg cp]
              refine wpS_bind (wpS_mergeChn h0 b1 b2 h3 (by omega) fun pd5 st5 d1 d2 d3 d4 => ?_)
              simp only [Bool.not_true, Bool.false_eq_true, if_false]
              refine wpS_pure ⟨rfl, pd5, d1, d2, fun i j hij hj => ?_⟩
              rw [d4 _ (by omega), d4 _ (by omega)]
              exact b3 i j hij hj
          · rw [if_neg cs]
            exact wpS_pure ⟨rfl, pd4, b1, b2, b3⟩
        · rintro c st4 ⟨rfl, pd4, b1, b2, b3⟩
          dsimp only
          refine wpS_bind (wpS_modify (wpS_bind (wpS_modify (wpS_pure ⟨lo + n, (pd4.modify (pd4.size - 1) fun y => (y.1, y.2.1, pw)).push (lo, n, 0), rfl, ⟨b1.perm, b1.kind, b1.failed, ?_⟩, ?_, n2, by omega⟩))))
          · show ((pendingOf st4).modify ((pendingOf st4).size - 1) fun y => (y.1, y.2.1, pw)).push (lo, n, 0) = _
            rw [b1.pend]
          · rw [Array.toList_push, pend_mod]
            exact (b2.powers _ pw).snoc n1 b3
  case post =>
    rintro c st' ⟨pd, rfl, hB', hc⟩
    dsimp only
    have hl := hc.le
    rw [Array.length_toList] at hl
    have hpos : ∀ {xs : Array Keyed} {pd : Array Pd}, Chn xs 0 pd.toList a₀.size → 1 ≤ pd.size := fun {xs pd} hc => by
      rcases Nat.eq_zero_or_pos pd.size with z | z
      · have : pd = #[] := Array.size_eq_zero_iff.mp z
        subst this
        have : (0 : Nat) = a₀.size := hc
        omega
      · exact z
    refine wpS_bind (wpS_mono (wpS_forRange (I := fun x c st4 => c = (none, ()) ∧ ∃ pd4, SB a₀ pd4 st4 ∧ Chn (arrOf st4) 0 pd4.toList a₀.size ∧ pd4.size ≤ max 1 (a₀.size - x)) (Q := fun c st4 => c = (none, ()) ∧ ∃ pd4, SB a₀ pd4 st4 ∧ Chn (arrOf st4) 0 pd4.toList a₀.size ∧ pd4.size = 1) ?_ ?_ ⟨rfl, pd, hB', hc, by omega⟩) ?_)
    · rintro x c st4 _ hx ⟨rfl, pd4, b1, b2, b3⟩
      have b4 := hpos b2
      refine wpS_bind (wpS_get ?_)
      rw [b1.pend]
      by_cases cs : pd4.size ≤ 1
      · rw [if_pos cs]
        exact wpS_pure ⟨rfl, pd4, b1, b2, by (clear h2 h hl hpos hx b3; omega)⟩
      · rw [if_neg cs]
        have go : ∀ i, i + 1 < pd4.size → wpS (model prog w) A E s (mergeAt' i) (fun r st5 => r = true ∧ ∃ pd5, SB a₀ pd5 st5 ∧ Chn (arrOf st5) 0 pd5.toList a₀.size ∧ pd5.size ≤ max 1 (a₀.size - (x + 1))) st4 := fun i hi => wpS_mergeChn h0 b1 b2 (Nat.le_refl _) hi fun pd5 st5 d1 d2 d3 d4 => ⟨rfl, pd5, d1, d2, by omega⟩
        refine wpS_bind (wpS_mono (go _ ?_) ?_)
        · repeat' split
          all_goals omega
        · rintro r st5 ⟨rfl, pd5, d1, d2, d3⟩
          simp only [Bool.not_true, Bool.false_eq_true, if_false]
          exact wpS_pure ⟨rfl, pd5, d1, d2, d3⟩
    · rintro c st4 ⟨rfl, pd4, b1, b2, b3⟩
      have b4 := hpos b2
      exact ⟨rfl, pd4, b1, b2, by (clear h2 h hl hpos; omega)⟩
    · rintro c st4 ⟨rfl, pd4, b1, b2, b3⟩
      refine wpS_pure (h _ b1.perm b1.failed ?_)
      obtain ⟨⟨p, n, u⟩, ey⟩ : ∃ y, pd4.toList = [y] := List.length_eq_one_iff.mp (by simpa using b3)
      rw [ey] at b2
      obtain ⟨rfl, d1, d2, d3⟩ := b2
      have d3 : 0 + n = a₀.size := d3
      intro i j hij hj
      have := d2 i j hij (by (clear h2 h hl hpos b3 d1 hij; omega))
      rw [Nat.zero_add, Nat.zero_add] at this
      exact this
end
end L2

set_option Elab.async false
set_option linter.all false
set_option maxRecDepth 100000
set_option maxHeartbeats 1000000
namespace L2
open PySem PySem.Spec PyProof.Rows
/-! ### sorted(xs) of a list of ints, however long -/
section
variable {prog : Program} {w : World} {A : Around} {E : Value → Shared → Prop} {s : Shared}
theorem sort_any {at_ : Addr} {us : List Value} {ks : List Int} {ep : Nat} {R : Fin → Shared → Prop} (ho : s.heap.get? at_ = some (seqObj "list" us.toArray ep)) (hI : IntsAre us ks) (hz : us.length ≤ 100000)
    (k : ∀ (out : Array Value) (ns : List Int), IntsAre out.toList ns → ns.Perm ks → ns.Pairwise (· ≤ ·) → R (.done (.ret .none)) { s with heap := sortedHeap s.heap at_ us out }) :
    wpAny (model prog w) A (Builtin.«list.sort» ⟨[.ref at_], []⟩) R E s := by
  by_cases small64 : us.length < 64
  · exact list_sort_tree ho hI small64 k
  have lt0 : at_ < s.heap.objs.size := Heap.lt_size ho
  have line : us.length ≤ sizeLine := small (m := 100000) hz
  rw [list_sort_plain]
  refine wpAny_bind (listItems_at ho rfl (wpAny_bind (listUpdate_at ho rfl ?_ (by rw [List.size_toArray]; exact line) (by simp))))
  obtain ⟨ep1, ho1⟩ : ∃ ep1, (s.heap.update at_ (Obj.mapSeq fun _ => #[])).get? at_ = some (seqObj "list" #[] ep1) := ⟨_, get?_update_seq ho (fun _ => #[])⟩
  refine wpAny_bind (seqEpoch_at ho1 rfl (wpAny_bind (wpAny_newTuple (wpAny_bind (wpAny_newList (wpAny_holding ?_))))))
  have ho2 : (((s.heap.update at_ (Obj.mapSeq fun _ => #[])).push (seqObj "tuple" us.toArray 0)).push (seqObj "list" #[] 0)).get? at_ = some (seqObj "list" #[] ep1) := by
    rw [Heap.get?_push_ne, Heap.get?_push_ne]
    · exact ho1
    · rw [Heap.size_update]; exact Nat.ne_of_lt lt0
    · rw [size_push', Heap.size_update]; exact Nat.ne_of_lt (Nat.lt_succ_of_lt lt0)
  show wpAny (model prog w) A _ R E { s with heap := ((s.heap.update at_ (Obj.mapSeq fun _ => #[])).push (seqObj "tuple" us.toArray 0)).push (seqObj "list" #[] 0) }
  dsimp only
  rw [if_neg (by rw [List.size_toArray]; omega), if_neg (by rw [List.size_toArray]; omega)]
  obtain ⟨v1, v2, more, rfl⟩ : ∃ v1 v2 more, us = v1 :: v2 :: more := by
    rcases us with _ | ⟨v1, _ | ⟨v2, more⟩⟩
    · simp at small64
    · simp at small64
    · exact ⟨v1, v2, more, rfl⟩
  rw [keyKind_ints hI]
  refine wpAny_bind (wpAny_pure (wpAny_bind (wpAny_mono (wpS_runs (a₀ := pairsOf (v1 :: v2 :: more)) (st := SortSt.mk' oneType' ((v1 :: v2 :: more).toArray.zip (v1 :: v2 :: more).toArray) #[] 7 none)
    (Q := fun _ st2 => (arrOf st2).Perm (pairsOf (v1 :: v2 :: more)) ∧ failedOf st2 = none ∧ SortedTo (arrOf st2) (pairsOf (v1 :: v2 :: more)).size)
    hI.intKeys ⟨Array.Perm.refl _, rfl, rfl, rfl⟩ (by rw [pairsOf_size]; simp) fun st2 y1 y2 y3 => ⟨y1, y2, y3⟩) ?_ fun _ _ z => z)))
  rintro ⟨⟨⟩, st2⟩ s2 ⟨rfl, hp, hf, hs⟩
  dsimp only
  have hout : ((arrOf st2).map (·.2)).size = (v1 :: v2 :: more).length := by rw [Array.size_map, hp.size_eq, pairsOf_size]
  refine wpAny_bind (seqEpoch_at ho2 rfl (wpAny_bind (listUpdate_at ho2 rfl ?_ (Nat.zero_le _) (by show ((arrOf st2).map (·.2)).size ≤ _; rw [hout]; exact Nat.le_succ_of_le line))))
  rw [hf]
  simp only [bne_self_eq_false, Bool.false_eq_true, if_false]
  obtain ⟨ns, z1, z2, z3⟩ := sorted_out hI hp hs
  exact wpAny_pure (k _ ns z1 z2 z3)
theorem sorted_any {l : Addr} {us : List Value} {ks : List Int} {Q : Value → Shared → Prop} (hl : s.heap.IsList l us.toArray) (hI : IntsAre us ks) (hz : us.length ≤ 100000)
    (k : ∀ (out : Array Value) (ns : List Int), IntsAre out.toList ns → ns.Perm ks → ns.Pairwise (· ≤ ·) → Q (.ref (s.heap.objs.size + 1)) { s with heap := sortedAll s.heap us out }) :
    wpAny (model prog w) A (call (.builtin "sorted") [.ref l]) Q E s := by
  refine Calls.call_function_entry kind_sorted plain_sorted entry_sorted (args_sorted1 _) ?_
  unfold Builtin.«sorted»
  refine wpAny_bind (m := checkCount "sorted" 1 1 _) (wpAny_pure (wpAny_bind (collect_list hl (wpAny_bind (wpAny_newList ?_ (small (m := 100000) hz))) (small (m := 100000) hz))))
  have sz : ((s.heap.push (seqObj "list" #[] 0)).update s.heap.objs.size (Obj.mapSeq (· ++ us.toArray))).objs.size = s.heap.objs.size + 1 := by rw [Heap.size_update, size_push']
  have hoL : (((s.heap.push (seqObj "list" #[] 0)).update s.heap.objs.size (Obj.mapSeq (· ++ us.toArray))).push (seqObj "list" us.toArray 0)).get? (s.heap.objs.size + 1) = some (seqObj "list" us.toArray 0) := by
    have := Heap.get?_push_size ((s.heap.push (seqObj "list" #[] 0)).update s.heap.objs.size (Obj.mapSeq (· ++ us.toArray))) (o := seqObj "list" us.toArray 0) rfl
    rwa [sz] at this
  show wpAny _ _ _ _ _ { s with heap := ((s.heap.push (seqObj "list" #[] 0)).update s.heap.objs.size (Obj.mapSeq (· ++ us.toArray))).push (seqObj "list" us.toArray 0) }
  rw [sz]
  refine wpAny_bind (wpAny_holding (wpAny_call_entry slot_list_sort ⟨_, hoL, rfl⟩ entry_list_sort (sort_any hoL hI hz fun out ns y1 y2 y3 => ⟨_, rfl, ?_⟩) (args_list_sort _)))
  exact wpAny_pure ⟨_, rfl, k out ns y1 y2 y3⟩
end
section
variable {X : Cx}
theorem call_sortedB {K : PySem.W.Frag} (hK : X.K = K) : CallR X (.builtin "sorted") (fun xs H Q => ∃ (a : Addr) (ks : List Int), xs = [.ref a] ∧ SqL K H a (ks.map V.int) ∧ ks.length ≤ 100000 ∧
    ∀ (p : Addr) (ns : List Int), H p = none → ns.Perm ks → ns.Pairwise (· ≤ ·) → Q (.ref p) (upd H p (.lst (ns.map V.int)))) := by
  subst hK
  intro pins s σ H xs us Q I r h
  obtain ⟨a, ks, rfl, ha, hz, q⟩ := h
  obtain ⟨u, rfl, ru⟩ := vals1 r
  cases ru
  obtain ⟨its, rv, pl, _⟩ := I.list ha
  have hi : IntsAre its ks := intsAre_of rv
  refine sorted_any pl.isList hi (by rw [hi.length]; exact hz) fun out ns y1 pm pw => ?_
  obtain ⟨e, he⟩ := sortedAll_at s.heap its out
  have hz2 : (ns.map V.int).length ≤ sizeLine := by rw [List.length_map, pm.length_eq]; exact small (m := 100000) hz
  exact ⟨.ref (s.heap.objs.size + 1), _, I.laid (t' := s.toks) (o := .lst (ns.map V.int)) (fun b o => sortedAll_old) (Nat.le_succ _) ⟨hz2, out.toList, e, vals_of y1, by simpa using he⟩, rfl, q _ ns (I.hok.fresh (Nat.le_succ _)) pm pw⟩
end
end L2

set_option Elab.async false
set_option linter.all false
set_option maxRecDepth 100000
set_option maxHeartbeats 1000000
namespace L2
open PySem PySem.Spec PyProof.Rows
/-! ### a def with a default for its last parameters -/
structure DnD (P : Program) (w : World) (K : PySem.W.Frag) (mg : Str → Option Value) (base : Heap) (x : Str) (n : Nat) (ps : List Str) (dvs : List V) (sp : Sp) : Prop where
  ex : ∃ f fd ds, FnOk P w K mg base CX0 n f fd ps sp ∧ mg x = some (.ref f) ∧ PySem.W.keepIn K (.ref f) = true ∧ Binds K fd ps ds ∧ Vals dvs ds
structure DefAtD (K : PySem.W.Frag) (mg : Str → Option Value) (x : Str) (st : Stmt) (ps : List Str) (dvs : List V) : Prop where
  ex : ∃ (f : Addr) (oc : Value) (od : Option Addr) (dV kV doc pm : Value) (an : Option Addr) (cdv ct : Value) (osl : Array (Option Value)) (ds : List Value),
    K.lookup f = some ⟨oc, od, .func (PySem.W.fnOf x x (defArgs st) (defBody st) (defScope st) dV kV doc pm an cdv ct), osl⟩ ∧ PySem.W.codeIn K cdv x = true ∧ PySem.W.keepIn K (.ref f) = true ∧ mg x = some (.ref f) ∧
    Binds K (PySem.W.fnOf x x (defArgs st) (defBody st) (defScope st) dV kV doc pm an cdv ct) ps ds ∧ Vals dvs ds
section
variable {P : Program} {w : World} {K : PySem.W.Frag} {mg : Str → Option Value} {base : Heap}
theorem DefAtD.ok {x : Str} {st : Stmt} {N ps : List Str} {dvs : List V} {k : Nat} {sp : Sp} (F : DefAtD K mg x st ps dvs) (S : FnScope N ps (defScope st)) (len : ∀ vs H Q E, sp vs H Q E → vs.length = ps.length)
    (hbody : ∀ (f : Addr) (cdv : Value) (A : Around) (outer : List Env) (s : Shared) (H : Hp) (vs : List V) (Q : VK) (E : XK), Room k (A.deeper (envOfC x (defScope st) s.heap.objs.size f cdv)) → sp vs H Q E →
      ∃ t, PSs (cxOf CX0 P w K mg base N x (defScope st) f cdv A outer s H E).nox (defBody st) t ∧ t { nx := fun _ H' => Q .non H', rt := Q } (start N vs) H) : DnD P w K mg base x (k + 1) ps dvs sp := by
  obtain ⟨f, oc, od, dV, kV, doc, pm, an, cdv, ct, osl, ds, lk, hcd, kp, hm, hb, hv⟩ := F.ex
  refine ⟨f, _, ds, fn_of lk hcd S len fun A outer s H vs Q E hr hsp => ?_, hm, kp, hb, hv⟩
  obtain ⟨t, h, q⟩ := hbody f cdv A outer s H vs Q E hr hsp
  exact ⟨t, h.nox, q⟩
theorem pe_dnD {X : Cx} {x : Str} {n k : Nat} {ps : List Str} {dvs : List V} {sp : Sp} {e : Expr} {es : List Expr} {t : TA} {p pos : Pos} (D : DnD X.prog X.w X.K X.mg X.base x n ps dvs sp) (hr : Room k X.A) (ha : PA X (e :: es) t) (hk : n ≤ k := by decide) (hg : Gl X x := by rfl)
    (hdb : (x == ("__debug__" : Str)) = false := by decide) (he : starEach (e :: es) X.env = (false, eval e X.env) :: starEach es X.env := by rfl) (hpl : (backTo pos (starEach es X.env)).any (·.1) = false := by rfl) :
    PE X (.Call (.Name x p) (e :: es) [] pos) (tCall sp dvs E0 t) := by
  obtain ⟨f, fd, ds, F, hm, kp, hb, hv⟩ := D.ex
  exact pe_call F (hr.mono hk) hg hm kp hb hv pass0 ha hdb he hpl
end
/-! ### xs[i] of xs[i] -= .., i from 0 on -/
def rGetL (K : PySem.W.Frag) : V → V → Hp → VK → Prop := fun x y H Q => ∃ p xs i v, x = .ref p ∧ y = .int i ∧ SqL K H p xs ∧ 0 ≤ i ∧ atI xs i = some v ∧ Q v H
theorem get_list {X : Cx} {K : PySem.W.Frag} (hK : X.K = K) : PGet X (rGetL K) := by
  subst hK
  intro pins s σ H x y v u Q I rx ry h
  obtain ⟨p, xs, i, z, rfl, rfl, hq, h0, he, q⟩ := h
  cases rx
  obtain ⟨t, rfl⟩ := ry
  obtain ⟨its, r, pl, hz⟩ := I.list hq
  obtain ⟨j, h1, h2, h3, h4, h5⟩ := atI_get he
  obtain ⟨w, ew, rw'⟩ := r.get h2
  have hl := r.length
  have hn := line63
  have hj : i.toNat = j := by
    rw [seqIndex_of h0 h5] at h1
    exact Option.some.inj h1
  exact wpAny_getItem_list pl.isList h0 (by omega) (by rw [hj]; simpa using ew) ⟨z, H, I, rw', q⟩
/-! ### lists of marks -/
def bm (n : Nat) (f : Int → Bool) : List V := (List.range n).map fun p => V.bl (f ((p : Nat) : Int))
theorem bm_len (n : Nat) (f : Int → Bool) : (bm n f).length = n := by unfold bm; simp
theorem bm_congr {n : Nat} {f g : Int → Bool} (h : ∀ p : Int, 0 ≤ p → p < n → f p = g p) : bm n f = bm n g := by
  unfold bm
  refine List.map_congr_left fun p hp => ?_
  rw [h _ (by omega) (by have := List.mem_range.mp hp; omega)]
theorem bm_at {n : Nat} {f : Int → Bool} {z : Int} (h0 : 0 ≤ z) (h1 : z < n) : (bm n f)[z.toNat]? = some (.bl (f z)) := by
  unfold bm
  rw [List.getElem?_map, List.getElem?_range (by omega)]
  show some (V.bl (f ((z.toNat : Nat) : Int))) = _
  rw [Int.toNat_of_nonneg h0]
theorem bm_set {n : Nat} {f : Int → Bool} {z : Int} (h0 : 0 ≤ z) (h1 : z < n) : (bm n f).set z.toNat (.bl true) = bm n fun x => f x || decide (x = z) := by
  apply List.ext_getElem?
  intro p
  by_cases hp : p < n
  · by_cases e : p = z.toNat
    · subst e
      rw [List.getElem?_set_self (by rw [bm_len]; exact hp), bm_at h0 h1]
      simp
    · rw [List.getElem?_set_ne (Ne.symm e)]
      have hne : ¬ ((p : Nat) : Int) = z := by omega
      unfold bm
      rw [List.getElem?_map, List.getElem?_map, List.getElem?_range hp]
      simp [hne]
  · rw [List.getElem?_eq_none (by rw [List.length_set, bm_len]; omega), List.getElem?_eq_none (by rw [bm_len]; omega)]
theorem bm_rep (n : Nat) (b : Bool) : (List.replicate n [V.bl b]).flatten = bm n fun _ => b := by
  unfold bm
  induction n with
  | zero => rfl
  | succ n ih => rw [List.replicate_succ', List.flatten_append, ih, List.range_succ, List.map_append]; rfl
/-! ### a list of ints told by a function -/
def im (n : Nat) (f : Int → Int) : List Int := (List.range n).map fun p => f ((p : Nat) : Int)
theorem im_len (n : Nat) (f : Int → Int) : (im n f).length = n := by unfold im; simp
theorem im_at {n : Nat} {f : Int → Int} {z : Int} (h0 : 0 ≤ z) (h1 : z < n) : (im n f)[z.toNat]? = some (f z) := by
  unfold im
  rw [List.getElem?_map, List.getElem?_range (by omega)]
  show some (f ((z.toNat : Nat) : Int)) = _
  rw [Int.toNat_of_nonneg h0]
theorem im_set {n : Nat} {f : Int → Int} {z v : Int} (h0 : 0 ≤ z) (h1 : z < n) : (im n f).set z.toNat v = im n fun x => if x = z then v else f x := by
  apply List.ext_getElem?
  intro p
  by_cases hp : p < n
  · by_cases e : p = z.toNat
    · subst e
      rw [List.getElem?_set_self (by rw [im_len]; exact hp), im_at h0 h1, if_pos rfl]
    · rw [List.getElem?_set_ne (Ne.symm e)]
      have hne : ¬ ((p : Nat) : Int) = z := by omega
      unfold im
      rw [List.getElem?_map, List.getElem?_map, List.getElem?_range hp]
      simp [hne]
  · rw [List.getElem?_eq_none (by rw [List.length_set, im_len]; omega), List.getElem?_eq_none (by rw [im_len]; omega)]
theorem im_congr {n : Nat} {f g : Int → Int} (h : ∀ p : Int, 0 ≤ p → p < n → f p = g p) : im n f = im n g := by
  unfold im
  refine List.map_congr_left fun p hp => ?_
  rw [h _ (by omega) (by have := List.mem_range.mp hp; omega)]
theorem im_snoc (n : Nat) (f : Int → Int) : im (n + 1) f = im n f ++ [f ((n : Nat) : Int)] := by unfold im; rw [List.range_succ, List.map_append]; rfl
theorem map_set_int (l : List Int) (k : Nat) (v : Int) : (l.map V.int).set k (.int v) = (l.set k v).map V.int := by rw [List.map_set]
end L2

set_option Elab.async false
set_option linter.all false
set_option maxRecDepth 100000
set_option maxHeartbeats 1000000
namespace L2
open PySem PySem.Spec PyProof.Rows
/-! ### zip of two lists of any lengths: n is the lesser one -/
theorem for_zipM {K : PySem.W.Frag} {a b : Addr} {xs ys : List V} {g : TG} {tb : TS} {D : Ends} {σ : St} {H : Hp} (n : Nat) (hn1 : n ≤ xs.length) (hn2 : n ≤ ys.length) (hn : n = xs.length ∨ n = ys.length) (Pv : Nat → St → Hp → Prop) (h0 : Pv 0 σ H) (hl : ∀ i σ H, i ≤ n → Pv i σ H → SqL K H a xs ∧ SqL K H b ys)
    (hs : ∀ i x y σ H T, i < n → xs[i]? = some x → ys[i]? = some y → Pv i σ H → H T = none → g (.ref T) σ (upd H T (.tup [x, y])) fun σ2 H2 => tb { D with nx := Pv (i + 1), ct := Pv (i + 1), bk := D.nx } σ2 H2) (hd : ∀ σ H, Pv n σ H → D.nx σ H) :
    ∃ W : Nat → Nat → St → Hp → Prop, (∃ m, W 0 m σ H) ∧ ∀ i m σ H, W i m σ H →
      ((Itz K a b).stop i H ∧ D.nx σ H) ∨ ((Itz K a b).go i H ∧ ∃ N : St → Hp → Prop, (∀ σ' H', N σ' H' → ∃ m', m' < m ∧ W (i + 1) m' σ' H') ∧ ∀ x H', (Itz K a b).yld i H x H' → g x σ H' fun σ2 H2 => tb { D with nx := N, ct := N, bk := D.nx } σ2 H2) := by
  refine ⟨fun i m σ H => m = n - i ∧ i ≤ n ∧ Pv i σ H, ⟨n, by simp, Nat.zero_le _, h0⟩, ?_⟩
  rintro i m σ H ⟨rfl, hi, p⟩
  obtain ⟨q, q2⟩ := hl i σ H hi p
  by_cases hlt : i < n
  · refine .inr ⟨⟨xs, ys, xs[i]'(by omega), ys[i]'(by omega), q, q2, by simp, by simp⟩, Pv (i + 1), fun σ' H' p' => ⟨n - (i + 1), by (clear hn1 hn2 hn hl hs hd hi; omega), rfl, hlt, p'⟩, fun x H' y => ?_⟩
    obtain ⟨T, u, v, rfl, hT, e1, e2, rfl⟩ := y
    exact hs i u v σ _ T hlt (e1 xs q) (e2 ys q2) p hT
  · have e : i = n := by (clear hn1 hn2 hn hl hs hd; omega)
    subst e
    refine .inl ⟨⟨xs, ys, q, q2, ?_⟩, hd σ H p⟩
    rcases hn with h | h
    · exact .inl (by omega)
    · exact .inr (by omega)
theorem cut_from1 (xs : List V) : cutV xs (some 1) none = xs.drop 1 := by
  unfold cutV
  show List.take _ (List.drop (HT.sIx xs.length 0 (some ((1 : Nat) : Int))) xs) = _
  rw [HT.sIx_nat, HT.sIx_none]
  cases xs with
  | nil => rfl
  | cons x xs =>
    have : min 1 (x :: xs).length = 1 := by simp
    show List.take ((x :: xs).length - min 1 (x :: xs).length) (List.drop (min 1 (x :: xs).length) (x :: xs)) = _
    rw [this]
    refine List.take_of_length_le ?_
    simp
/-! ### a list of ways and None told by a function -/
def oW : Option Int → V
  | none => .non
  | some z => .int z
def om (n : Nat) (f : Int → Option Int) : List V := (List.range n).map fun p => oW (f ((p : Nat) : Int))
theorem om_len (n : Nat) (f : Int → Option Int) : (om n f).length = n := by unfold om; simp
theorem om_congr {n : Nat} {f g : Int → Option Int} (h : ∀ p : Int, 0 ≤ p → p < n → f p = g p) : om n f = om n g := by
  unfold om
  refine List.map_congr_left fun p hp => ?_
  rw [h _ (by omega) (by have := List.mem_range.mp hp; omega)]
theorem om_at {n : Nat} {f : Int → Option Int} {z : Int} (h0 : 0 ≤ z) (h1 : z < n) : (om n f)[z.toNat]? = some (oW (f z)) := by
  unfold om
  rw [List.getElem?_map, List.getElem?_range (by omega)]
  show some (oW (f ((z.toNat : Nat) : Int))) = _
  rw [Int.toNat_of_nonneg h0]
theorem om_set {n : Nat} {f : Int → Option Int} {z v : Int} (h0 : 0 ≤ z) (h1 : z < n) : (om n f).set z.toNat (.int v) = om n fun x => if x = z then some v else f x := by
  apply List.ext_getElem?
  intro p
  by_cases hp : p < n
  · by_cases e : p = z.toNat
    · subst e
      rw [List.getElem?_set_self (by rw [om_len]; exact hp), om_at h0 h1, if_pos rfl]; rfl
    · rw [List.getElem?_set_ne (Ne.symm e)]
      have hne : ¬ ((p : Nat) : Int) = z := by (clear h0 h1 hp; omega)
      unfold om
      rw [List.getElem?_map, List.getElem?_map, List.getElem?_range hp]
      simp [hne]
  · rw [List.getElem?_eq_none (by rw [List.length_set, om_len]; omega), List.getElem?_eq_none (by rw [om_len]; omega)]
theorem om_rep (n : Nat) : (List.replicate n [V.non]).flatten = om n fun _ => none := by
  unfold om
  induction n with
  | zero => rfl
  | succ n ih => rw [List.replicate_succ', List.flatten_append, ih, List.range_succ, List.map_append]; rfl
theorem om_snoc (n : Nat) (f : Int → Option Int) : om (n + 1) f = om n f ++ [oW (f ((n : Nat) : Int))] := by unfold om; rw [List.range_succ, List.map_append]; rfl
/-! ### comprehensions over zip -/
theorem comp_zipD {K : PySem.W.Frag} {a b : Addr} {xs zs : List V} {tt : TTg} {tc : TT} {te : TE} {cap : List Nat} {σ : St} {H : Hp} {D : Addr → List V → Hp → Prop} (n : Nat) (hn1 : n ≤ xs.length) (hn2 : n ≤ zs.length) (hn : n = xs.length ∨ n = zs.length) (Pv : Nat → List V → Hp → Prop) (h0 : Pv 0 [] H) (hz : n ≤ sizeLine) (hl : ∀ i ys H, i ≤ n → Pv i ys H → SqL K H a xs ∧ SqL K H b zs ∧ ys.length ≤ i)
    (hs : ∀ i x z ys H T, i < n → xs[i]? = some x → zs[i]? = some z → Pv i ys H → H T = none → tt (.ref T) (upd H T (.tup [x, z])) fun ws => tc (ws.map some ++ capS σ cap) (upd H T (.tup [x, z])) fun b H4 => if b = true then te (ws.map some ++ capS σ cap) H4 fun y H5 => Pv (i + 1) (ys ++ [y]) H5 else Pv (i + 1) ys H4)
    (hd : ∀ ys H, Pv n ys H → ∀ p, H p = none → D p ys H) :
    ∃ W : Nat → Nat → List V → Hp → Prop, (∃ m, W 0 m [] H) ∧ ∀ i m ys H2, W i m ys H2 →
    ((Itz K a b).stop i H2 ∧ ys.length ≤ sizeLine ∧ ∀ p, H2 p = none → D p ys H2) ∨
    ((Itz K a b).go i H2 ∧ ∃ N : List V → Hp → Prop, (∀ ys' H', N ys' H' → ys'.length ≤ sizeLine ∧ ∃ m', m' < m ∧ W (i + 1) m' ys' H') ∧
      ∀ x H3, (Itz K a b).yld i H2 x H3 → tt x H3 fun ws => tc (ws.map some ++ capS σ cap) H3 fun b H4 =>
        if b = true then te (ws.map some ++ capS σ cap) H4 fun y H5 => N (ys ++ [y]) H5 else N ys H4) := by
  refine ⟨fun i m ys H => m = n - i ∧ i ≤ n ∧ Pv i ys H, ⟨n, by simp, Nat.zero_le _, h0⟩, ?_⟩
  rintro i m ys H2 ⟨rfl, hi, p⟩
  obtain ⟨q, q2, hy⟩ := hl i ys H2 hi p
  by_cases hlt : i < n
  · refine .inr ⟨⟨xs, zs, xs[i]'(by omega), zs[i]'(by omega), q, q2, by simp, by simp⟩, Pv (i + 1), fun ys' H' r => ?_, fun x H3 y => ?_⟩
    · obtain ⟨_, _, h2⟩ := hl (i + 1) ys' H' hlt r
      exact ⟨by (clear hn1 hn2 hn hd hi hy hl hs; omega), n - (i + 1), by (clear hn1 hn2 hn hz hl hs hd hi hy h2; omega), rfl, hlt, r⟩
    · obtain ⟨T, u, v, rfl, hT, e1, e2, rfl⟩ := y
      exact hs i u v ys _ T hlt (e1 xs q) (e2 zs q2) p hT
  · have e : i = n := by (clear hn1 hn2 hn hz hl hs hd hy; omega)
    subst e
    refine .inl ⟨⟨xs, zs, q, q2, ?_⟩, by omega, hd ys H2 p⟩
    rcases hn with h | h
    · exact .inl (by omega)
    · exact .inr (by omega)
end L2

set_option Elab.async false
set_option linter.all false
set_option maxRecDepth 100000
set_option maxHeartbeats 1000000
namespace L2
open PySem PySem.Spec PyProof.Rows
/-! ### == and != of any two of a shape -/
section
variable {X : Cx}
end
end L2

set_option Elab.async false
set_option linter.all false
set_option maxRecDepth 100000
set_option maxHeartbeats 1000000
namespace L2
open PySem PySem.Spec PyProof.Rows
/-! ### own classes: the class under its name, its methods, its making -/
section
variable {P : Program} {w : World} {K : PySem.W.Frag} {mg : Str → Option Value} {base : Heap}
end
section
variable {X : Cx}
end
end L2

set_option Elab.async false
set_option linter.all false
set_option maxRecDepth 100000
set_option maxHeartbeats 1000000
namespace L2
open PySem PySem.Spec PyProof.Rows
/-! ### a heap without two of its objects -/
section
variable {H H' : Hp} {a b c : Addr}
end
end L2

set_option Elab.async false
set_option linter.all false
namespace L2
open PySem PySem.Spec PyProof.Rows
/-! ### readings that come often, each as one step (their terms are much smaller so) -/
section
variable {K : PySem.W.Frag} {i j : Nat} {σ : St} {H : Hp} {Q : VK} {a b C dx : Addr} {xs ys : List V} {z c : Int} {v u : V} {f : Str} {fs : List (Str × V)}
theorem rd_ixv (h1 : σ[i]? = some (some (.ref a))) (h2 : σ[j]? = some (some (.int z))) (hq : SqL K H a xs) (ha : atI xs z = some v) (k : Q v H) : tOp (rIxL K) (tVar i) (tVar j) σ H Q := ⟨_, h1, _, h2, a, xs, z, v, rfl, rfl, hq, ha, k⟩
theorem rd_tixc (h1 : σ[i]? = some (some (.ref a))) (hq : SqT K H a xs) (ha : atI xs z = some v) (k : Q v H) : tOp (rIxT K) (tVar i) (tC (.int z)) σ H Q := ⟨_, h1, a, xs, z, v, rfl, rfl, hq, ha, k⟩
theorem rd_gix (h1 : σ[i]? = some (some (.ref a))) (h2 : σ[j]? = some (some (.int z))) (hq : SqL K H a xs) (ha : atI xs z = some (.ref b)) (hb : SqT K H b ys) (hc : atI ys c = some v) (k : Q v H) : tOp (rIxT K) (tOp (rIxL K) (tVar i) (tVar j)) (tC (.int c)) σ H Q := ⟨_, h1, _, h2, a, xs, z, _, rfl, rfl, hq, ha, b, ys, c, v, rfl, rfl, hb, hc, k⟩
end
/-! ### what follows a statement, under a name of its own -/
end L2

set_option linter.all false
namespace L2
/-! ### many at once: taken apart in one step -/
inductive Ex2 {A0 A1 : Type} (p : A0 → A1 → Prop) : Prop
  | mk (a0 : A0) (a1 : A1) (h : p a0 a1) : Ex2 p
inductive Ex3 {A0 A1 A2 : Type} (p : A0 → A1 → A2 → Prop) : Prop
  | mk (a0 : A0) (a1 : A1) (a2 : A2) (h : p a0 a1 a2) : Ex3 p
inductive Ex4 {A0 A1 A2 A3 : Type} (p : A0 → A1 → A2 → A3 → Prop) : Prop
  | mk (a0 : A0) (a1 : A1) (a2 : A2) (a3 : A3) (h : p a0 a1 a2 a3) : Ex4 p
inductive Ex5 {A0 A1 A2 A3 A4 : Type} (p : A0 → A1 → A2 → A3 → A4 → Prop) : Prop
  | mk (a0 : A0) (a1 : A1) (a2 : A2) (a3 : A3) (a4 : A4) (h : p a0 a1 a2 a3 a4) : Ex5 p
inductive Ex6 {A0 A1 A2 A3 A4 A5 : Type} (p : A0 → A1 → A2 → A3 → A4 → A5 → Prop) : Prop
  | mk (a0 : A0) (a1 : A1) (a2 : A2) (a3 : A3) (a4 : A4) (a5 : A5) (h : p a0 a1 a2 a3 a4 a5) : Ex6 p
inductive Ex7 {A0 A1 A2 A3 A4 A5 A6 : Type} (p : A0 → A1 → A2 → A3 → A4 → A5 → A6 → Prop) : Prop
  | mk (a0 : A0) (a1 : A1) (a2 : A2) (a3 : A3) (a4 : A4) (a5 : A5) (a6 : A6) (h : p a0 a1 a2 a3 a4 a5 a6) : Ex7 p
inductive Ex8 {A0 A1 A2 A3 A4 A5 A6 A7 : Type} (p : A0 → A1 → A2 → A3 → A4 → A5 → A6 → A7 → Prop) : Prop
  | mk (a0 : A0) (a1 : A1) (a2 : A2) (a3 : A3) (a4 : A4) (a5 : A5) (a6 : A6) (a7 : A7) (h : p a0 a1 a2 a3 a4 a5 a6 a7) : Ex8 p
inductive Ex9 {A0 A1 A2 A3 A4 A5 A6 A7 A8 : Type} (p : A0 → A1 → A2 → A3 → A4 → A5 → A6 → A7 → A8 → Prop) : Prop
  | mk (a0 : A0) (a1 : A1) (a2 : A2) (a3 : A3) (a4 : A4) (a5 : A5) (a6 : A6) (a7 : A7) (a8 : A8) (h : p a0 a1 a2 a3 a4 a5 a6 a7 a8) : Ex9 p
inductive Ex10 {A0 A1 A2 A3 A4 A5 A6 A7 A8 A9 : Type} (p : A0 → A1 → A2 → A3 → A4 → A5 → A6 → A7 → A8 → A9 → Prop) : Prop
  | mk (a0 : A0) (a1 : A1) (a2 : A2) (a3 : A3) (a4 : A4) (a5 : A5) (a6 : A6) (a7 : A7) (a8 : A8) (a9 : A9) (h : p a0 a1 a2 a3 a4 a5 a6 a7 a8 a9) : Ex10 p
inductive Ex11 {A0 A1 A2 A3 A4 A5 A6 A7 A8 A9 A10 : Type} (p : A0 → A1 → A2 → A3 → A4 → A5 → A6 → A7 → A8 → A9 → A10 → Prop) : Prop
  | mk (a0 : A0) (a1 : A1) (a2 : A2) (a3 : A3) (a4 : A4) (a5 : A5) (a6 : A6) (a7 : A7) (a8 : A8) (a9 : A9) (a10 : A10) (h : p a0 a1 a2 a3 a4 a5 a6 a7 a8 a9 a10) : Ex11 p
inductive And4 (p0 p1 p2 p3 : Prop) : Prop
  | mk (h0 : p0) (h1 : p1) (h2 : p2) (h3 : p3) : And4 p0 p1 p2 p3
inductive And5 (p0 p1 p2 p3 p4 : Prop) : Prop
  | mk (h0 : p0) (h1 : p1) (h2 : p2) (h3 : p3) (h4 : p4) : And5 p0 p1 p2 p3 p4
inductive And6 (p0 p1 p2 p3 p4 p5 : Prop) : Prop
  | mk (h0 : p0) (h1 : p1) (h2 : p2) (h3 : p3) (h4 : p4) (h5 : p5) : And6 p0 p1 p2 p3 p4 p5
inductive And7 (p0 p1 p2 p3 p4 p5 p6 : Prop) : Prop
  | mk (h0 : p0) (h1 : p1) (h2 : p2) (h3 : p3) (h4 : p4) (h5 : p5) (h6 : p6) : And7 p0 p1 p2 p3 p4 p5 p6
inductive And8 (p0 p1 p2 p3 p4 p5 p6 p7 : Prop) : Prop
  | mk (h0 : p0) (h1 : p1) (h2 : p2) (h3 : p3) (h4 : p4) (h5 : p5) (h6 : p6) (h7 : p7) : And8 p0 p1 p2 p3 p4 p5 p6 p7
inductive And9 (p0 p1 p2 p3 p4 p5 p6 p7 p8 : Prop) : Prop
  | mk (h0 : p0) (h1 : p1) (h2 : p2) (h3 : p3) (h4 : p4) (h5 : p5) (h6 : p6) (h7 : p7) (h8 : p8) : And9 p0 p1 p2 p3 p4 p5 p6 p7 p8
inductive And10 (p0 p1 p2 p3 p4 p5 p6 p7 p8 p9 : Prop) : Prop
  | mk (h0 : p0) (h1 : p1) (h2 : p2) (h3 : p3) (h4 : p4) (h5 : p5) (h6 : p6) (h7 : p7) (h8 : p8) (h9 : p9) : And10 p0 p1 p2 p3 p4 p5 p6 p7 p8 p9
inductive And11 (p0 p1 p2 p3 p4 p5 p6 p7 p8 p9 p10 : Prop) : Prop
  | mk (h0 : p0) (h1 : p1) (h2 : p2) (h3 : p3) (h4 : p4) (h5 : p5) (h6 : p6) (h7 : p7) (h8 : p8) (h9 : p9) (h10 : p10) : And11 p0 p1 p2 p3 p4 p5 p6 p7 p8 p9 p10
inductive And13 (p0 p1 p2 p3 p4 p5 p6 p7 p8 p9 p10 p11 p12 : Prop) : Prop
  | mk (h0 : p0) (h1 : p1) (h2 : p2) (h3 : p3) (h4 : p4) (h5 : p5) (h6 : p6) (h7 : p7) (h8 : p8) (h9 : p9) (h10 : p10) (h11 : p11) (h12 : p12) : And13 p0 p1 p2 p3 p4 p5 p6 p7 p8 p9 p10 p11 p12
inductive And16 (p0 p1 p2 p3 p4 p5 p6 p7 p8 p9 p10 p11 p12 p13 p14 p15 : Prop) : Prop
  | mk (h0 : p0) (h1 : p1) (h2 : p2) (h3 : p3) (h4 : p4) (h5 : p5) (h6 : p6) (h7 : p7) (h8 : p8) (h9 : p9) (h10 : p10) (h11 : p11) (h12 : p12) (h13 : p13) (h14 : p14) (h15 : p15) : And16 p0 p1 p2 p3 p4 p5 p6 p7 p8 p9 p10 p11 p12 p13 p14 p15
end L2

set_option linter.all false
namespace Law
open PySem L2
def waysOf (G : List Row) (k : Nat) : List Int := ((G[k]?).getD (0, 0, [])).2.2
theorem waysOf_at {G : List Row} {k : Nat} {r : Row} (h : G[k]? = some r) : waysOf G k = r.2.2 := by unfold waysOf; rw [h]; rfl
def inW (G : List Row) (p k : Nat) : Bool := decide ((p : Int) ∈ waysOf G k)
def col (G : List Row) (i p : Nat) : List Int := ((List.range i).filter (inW G p)).map fun (k : Nat) => (k : Int)
def wi (G : List Row) (i : Nat) : List (List Int) := (List.range G.length).map (col G i)
def wi2 (G : List Row) (i j : Nat) : List (List Int) := (List.range G.length).map fun p => col G i p ++ if (p : Int) ∈ (waysOf G i).take j then [(i : Int)] else []
theorem wi_len (G : List Row) (i : Nat) : (wi G i).length = G.length := by simp [wi]
theorem wi2_len (G : List Row) (i j : Nat) : (wi2 G i j).length = G.length := by simp [wi2]
theorem wi_zero (G : List Row) : wi G 0 = List.replicate G.length [] := by
  apply List.ext_getElem?
  intro p
  by_cases h : p < G.length
  · simp [wi, h]; rfl
  · simp [wi, h]
theorem wi2_zero (G : List Row) (i : Nat) : wi2 G i 0 = wi G i := by simp [wi2, wi]
theorem wi2_all (G : List Row) (i : Nat) : wi2 G i (waysOf G i).length = wi G (i + 1) := by
  unfold wi2 wi
  refine List.map_congr_left fun p _ => ?_
  rw [List.take_length]
  unfold col
  rw [List.range_succ, List.filter_append, List.map_append]
  congr 1
  by_cases h : (p : Int) ∈ waysOf G i
  · simp [h, inW]
  · simp [h, inW]
theorem wi2_at {G : List Row} {i j : Nat} {z : Int} (h : (waysOf G i)[j]? = some z) (hn : (waysOf G i).Nodup) (h0 : 0 ≤ z) (h1 : z < G.length) : (wi2 G i j)[z.toNat]? = some (col G i z.toNat) := by
  have hz : z.toNat < G.length := by omega
  have e : ((z.toNat : Nat) : Int) = z := by omega
  have hni : z ∉ (waysOf G i).take j := fun hm => by
    obtain ⟨k, hk⟩ := List.getElem?_of_mem hm
    rw [List.getElem?_take] at hk
    split at hk
    · have := nodup_at2 hn hk h; omega
    · cases hk
  simp [wi2, hz, e, hni]
theorem wi2_set {G : List Row} {i j : Nat} {z : Int} (h : (waysOf G i)[j]? = some z) (h0 : 0 ≤ z) (h1 : z < G.length) : (wi2 G i j).set z.toNat (col G i z.toNat ++ [(i : Int)]) = wi2 G i (j + 1) := by
  have hz : z.toNat < G.length := by omega
  have e : ((z.toNat : Nat) : Int) = z := by omega
  apply List.ext_getElem?
  intro p
  by_cases hp : p = z.toNat
  · subst hp
    rw [List.getElem?_set_self (by rw [wi2_len]; exact hz)]
    have : z ∈ (waysOf G i).take (j + 1) := (mem_take_snoc h).mpr (.inr rfl)
    simp [wi2, hz, e, this]
  · rw [List.getElem?_set_ne (Ne.symm hp)]
    by_cases hl : p < G.length
    · have hne : (p : Int) ≠ z := by omega
      have : (p : Int) ∈ (waysOf G i).take (j + 1) ↔ (p : Int) ∈ (waysOf G i).take j := by rw [mem_take_snoc h]; simp [hne]
      simp [wi2, hl, this]
    · simp [wi2, hl]
end Law

set_option linter.all false
namespace Law
open PySem L2
/-! ### pulling: the layers, and how the counting finds them -/
def wy (G : List Row) (p : Int) : List Int := ((G[p.toNat]?).getD (0, 0, [])).2.2
def hd (G : List Row) (p : Int) : Int := ((G[p.toNat]?).getD (0, 0, [])).1
theorem wy_at {G : List Row} {p : Int} {r : Row} (h : G[p.toNat]? = some r) : wy G p = r.2.2 := by unfold wy; rw [h]; rfl
theorem hd_at {G : List Row} {p : Int} {r : Row} (h : G[p.toNat]? = some r) : hd G p = r.1 := by unfold hd; rw [h]; rfl
def rng (n : Nat) : List Int := (List.range n).map fun (i : Nat) => (i : Int)
theorem mem_rng {n : Nat} {p : Int} : p ∈ rng n ↔ 0 ≤ p ∧ p < n := by
  unfold rng
  rw [List.mem_map]
  constructor
  · rintro ⟨i, hi, rfl⟩
    have := List.mem_range.mp hi
    omega
  · rintro ⟨h0, h1⟩
    exact ⟨p.toNat, List.mem_range.mpr (by omega), by omega⟩
theorem rng_lt (n : Nat) : (rng n).Pairwise (· < ·) := by
  unfold rng
  rw [List.pairwise_map]
  exact List.pairwise_lt_range.imp fun h => by omega
theorem rng_snoc (n : Nat) : rng (n + 1) = rng n ++ [(n : Int)] := by unfold rng; rw [List.range_succ, List.map_append]; rfl
/-- the ways of each place: rising, each once, in the game -/
def WOkG (G : List Row) : Prop := ∀ row ∈ G, row.2.2.Pairwise (· < ·) ∧ ∀ x ∈ row.2.2, 0 ≤ x ∧ x < G.length
theorem wy_nodup {G : List Row} (h : WOkG G) (p : Int) : (wy G p).Nodup := by
  unfold wy
  cases e : G[p.toNat]? with
  | none => exact List.nodup_nil
  | some r => exact (h r (List.mem_of_getElem? e)).1.imp fun h => by omega
theorem wy_in {G : List Row} (h : WOkG G) {p w : Int} (hw : w ∈ wy G p) : 0 ≤ w ∧ w < G.length := by
  unfold wy at hw
  cases e : G[p.toNat]? with
  | none => rw [e] at hw; cases hw
  | some r => rw [e] at hw; exact (h r (List.mem_of_getElem? e)).2 w hw
section
variable (G : List Row) (hand : Int) (ins : Int → Bool)
/-- p is in the next layer, where S are the places seen -/
def chr (S : List Int) (p : Int) : Bool := ins p && decide (p ∉ S) && (if hd G p = hand then (wy G p).any (fun w => decide (w ∈ S)) else (wy G p).any ins && (wy G p).all fun w => !ins w || decide (w ∈ S))
def nxt (S : List Int) : List Int := (rng G.length).filter (chr G hand ins S)
def run : Nat → List (List Int) → List Int → List (List Int)
  | 0, Ls, _ => Ls
  | k + 1, Ls, L => if L = [] then Ls else run k (Ls ++ [L]) (nxt G hand ins (Ls.flatten ++ L))
def lay0 (want : Int → Bool) : List Int := (rng G.length).filter fun p => ins p && want p
def layers (want : Int → Bool) : List (List Int) := run G hand ins (G.length + 1) [] (lay0 G ins want)
end
section
variable {G : List Row} {hand : Int} {ins : Int → Bool}
theorem nxt_mem {S : List Int} {p : Int} : p ∈ nxt G hand ins S ↔ (0 ≤ p ∧ p < G.length) ∧ chr G hand ins S p = true := by
  unfold nxt; rw [List.mem_filter, mem_rng]
theorem nxt_lt (S : List Int) : (nxt G hand ins S).Pairwise (· < ·) := (rng_lt _).filter _
theorem nxt_new {S : List Int} {p : Int} (h : p ∈ nxt G hand ins S) : p ∉ S ∧ ins p = true := by
  have := (nxt_mem.mp h).2
  unfold chr at this
  simp only [Bool.and_eq_true, decide_eq_true_eq] at this
  exact ⟨this.1.2, this.1.1⟩
/-- what holds of the layers told so far and the one in hand -/
structure LI (G : List Row) (hand : Int) (ins : Int → Bool) (Ls : List (List Int)) (L : List Int) : Prop where
  nd : (Ls.flatten ++ L).Nodup
  rg : ∀ p ∈ Ls.flatten ++ L, 0 ≤ p ∧ p < G.length
  inn : ∀ p ∈ Ls.flatten ++ L, ins p = true
theorem lt_nodup {l : List Int} (h : l.Pairwise (· < ·)) : l.Nodup := h.imp fun h => by omega
theorem LI.start (want : Int → Bool) : LI G hand ins [] (lay0 G ins want) := by
  refine ⟨?_, fun p hp => ?_, fun p hp => ?_⟩
  · exact lt_nodup ((rng_lt _).filter _)
  · exact mem_rng.mp (List.mem_filter.mp hp).1
  · have := (List.mem_filter.mp hp).2
    simp only [Bool.and_eq_true] at this
    exact this.1
theorem LI.next {Ls : List (List Int)} {L : List Int} (h : LI G hand ins Ls L) : LI G hand ins (Ls ++ [L]) (nxt G hand ins (Ls.flatten ++ L)) := by
  have e : (Ls ++ [L]).flatten = Ls.flatten ++ L := by simp
  refine ⟨?_, fun p hp => ?_, fun p hp => ?_⟩
  · rw [List.nodup_append]
    exact ⟨by rw [e]; exact h.nd, lt_nodup (nxt_lt _), fun a ha b hb z => (nxt_new hb).1 (by rw [← z]; rw [e] at ha; exact ha)⟩
  · rcases List.mem_append.mp hp with hp | hp
    · rw [e] at hp; exact h.rg p hp
    · exact (nxt_mem.mp hp).1
  · rcases List.mem_append.mp hp with hp | hp
    · rw [e] at hp; exact h.inn p hp
    · exact (nxt_new hp).2
theorem LI.len {Ls : List (List Int)} {L : List Int} (h : LI G hand ins Ls L) : Ls.flatten.length + L.length ≤ G.length := by
  have := nodup_sub (Ls.flatten ++ L) (rng G.length) h.nd fun x hx => mem_rng.mpr (h.rg x hx)
  rw [List.length_append] at this
  unfold rng at this
  simpa using this
end
/-! the counting -/
section
variable (G : List Row) (hand : Int) (ins want : Int → Bool)
def cnt (S : List Int) (p : Int) : Nat := ((wy G p).filter fun w => decide (w ∈ S)).length
def lack (p : Int) : Nat := if ins p = false ∨ want p = true then 0 else if hd G p = hand then 1 else ((wy G p).filter ins).length
end
section
variable {G : List Row} {hand : Int} {ins want : Int → Bool}
theorem filter_len {l : List Int} {p q : Int → Bool} (h : ∀ x, p x = true → q x = true) : (l.filter p).length ≤ (l.filter q).length := by
  induction l with
  | nil => simp
  | cons a l ih =>
    cases e1 : p a with
    | true => rw [List.filter_cons_of_pos e1, List.filter_cons_of_pos (h a e1)]; simpa using ih
    | false =>
      rw [List.filter_cons_of_neg (by simp [e1])]
      cases e2 : q a with
      | true => rw [List.filter_cons_of_pos e2, List.length_cons]; omega
      | false => rw [List.filter_cons_of_neg (by simp [e2])]; exact ih
theorem cnt_mono {S T : List Int} (h : ∀ x ∈ S, x ∈ T) (p : Int) : cnt G S p ≤ cnt G T p := by
  unfold cnt
  exact filter_len fun w hw => by simp only [decide_eq_true_eq] at hw ⊢; exact h w hw
theorem filter_snoc_len {l : List Int} (nd : l.Nodup) {S : List Int} {x : Int} (hx : x ∉ S) : (l.filter fun w => decide (w ∈ S ++ [x])).length = (l.filter fun w => decide (w ∈ S)).length + if x ∈ l then 1 else 0 := by
  induction l with
  | nil => simp
  | cons a l ih =>
    obtain ⟨na, nl⟩ := List.nodup_cons.mp nd
    have ih := ih nl
    by_cases e : a = x
    · subst e
      rw [List.filter_cons_of_pos (by simp), List.filter_cons_of_neg (by simpa using hx), List.length_cons, ih, if_neg na, if_pos (by simp)]
    · have h1 : (x ∈ a :: l) ↔ x ∈ l := by rw [List.mem_cons]; exact ⟨fun z => z.resolve_left fun z => e z.symm, .inr⟩
      by_cases c : a ∈ S
      · rw [List.filter_cons_of_pos (by simp [c]), List.filter_cons_of_pos (by simp [c]), List.length_cons, List.length_cons, ih]
        simp only [h1]; omega
      · rw [List.filter_cons_of_neg (by simp [c, e]), List.filter_cons_of_neg (by simpa using c), ih]
        simp only [h1]
theorem cnt_snoc (h : WOkG G) {S : List Int} {x : Int} (hx : x ∉ S) (p : Int) : cnt G (S ++ [x]) p = cnt G S p + if x ∈ wy G p then 1 else 0 := filter_snoc_len (wy_nodup h p) hx
/-- what was seen is the goal's, and what the counting has let in -/
def Seen (G : List Row) (hand : Int) (ins want : Int → Bool) (S0 S : List Int) : Prop := ∀ p : Int, 0 ≤ p ∧ p < G.length → (p ∈ S ↔ (ins p = true ∧ want p = true) ∨ (1 ≤ lack G hand ins want p ∧ lack G hand ins want p ≤ cnt G S0 p))
theorem all_of_len {l : List Int} {p q : Int → Bool} (hpq : ∀ x, q x = true → p x = true) : ((l.filter p).length ≤ (l.filter q).length ↔ ∀ x ∈ l, p x = true → q x = true) := by
  induction l with
  | nil => simp
  | cons a l ih =>
    have hle : (l.filter q).length ≤ (l.filter p).length := filter_len fun x hx => hpq x hx
    cases e1 : p a with
    | true =>
      cases e2 : q a with
      | true => rw [List.filter_cons_of_pos e1, List.filter_cons_of_pos e2]; simp [ih, e2]
      | false =>
        rw [List.filter_cons_of_pos e1, List.filter_cons_of_neg (by simp [e2]), List.length_cons]
        constructor
        · intro h; omega
        · intro h; have := h a (by simp) e1; rw [e2] at this; cases this
    | false =>
      have e2 : q a = false := by
        cases z : q a with
        | false => rfl
        | true => rw [hpq a z] at e1; cases e1
      rw [List.filter_cons_of_neg (by simp [e1]), List.filter_cons_of_neg (by simp [e2]), ih]
      simp [e1]
theorem chr_count (hG : WOkG G) {S0 S : List Int} (hS : Seen G hand ins want S0 S) (hin : ∀ x ∈ S, ins x = true) (h0 : ∀ x ∈ S0, x ∈ S) {p : Int} (hp : 0 ≤ p ∧ p < G.length) : chr G hand ins S p = true ↔ 1 ≤ lack G hand ins want p ∧ cnt G S0 p < lack G hand ins want p ∧ lack G hand ins want p ≤ cnt G S p := by
  have key : ins p = true → want p = false → ((if hd G p = hand then (wy G p).any (fun w => decide (w ∈ S)) else (wy G p).any ins && (wy G p).all fun w => !ins w || decide (w ∈ S)) = true ↔ 1 ≤ lack G hand ins want p ∧ lack G hand ins want p ≤ cnt G S p) := fun hi hw => by
    have hl : lack G hand ins want p = if hd G p = hand then 1 else ((wy G p).filter ins).length := by unfold lack; rw [if_neg (by rw [hi, hw]; simp)]
    rw [hl]
    by_cases ho : hd G p = hand
    · simp only [if_pos ho]
      unfold cnt
      rw [List.any_eq_true]
      constructor
      · rintro ⟨w, h1, h2⟩
        exact ⟨Nat.le_refl _, List.length_pos_iff.mpr (List.ne_nil_of_mem (List.mem_filter.mpr ⟨h1, h2⟩))⟩
      · rintro ⟨_, h⟩
        obtain ⟨w, hw⟩ := List.exists_mem_of_length_pos h
        exact ⟨w, (List.mem_filter.mp hw).1, (List.mem_filter.mp hw).2⟩
    · simp only [if_neg ho]
      rw [Bool.and_eq_true, List.any_eq_true, List.all_eq_true]
      unfold cnt
      rw [all_of_len (p := ins) (q := fun w => decide (w ∈ S)) fun x hx => hin x (of_decide_eq_true hx)]
      constructor
      · rintro ⟨⟨w, h1, h2⟩, h3⟩
        refine ⟨List.length_pos_iff.mpr (List.ne_nil_of_mem (List.mem_filter.mpr ⟨h1, h2⟩)), fun x hx hi => ?_⟩
        have := h3 x hx
        rw [hi] at this
        simpa using this
      · rintro ⟨h1, h2⟩
        obtain ⟨w, hw⟩ := List.exists_mem_of_length_pos h1
        refine ⟨⟨w, (List.mem_filter.mp hw).1, (List.mem_filter.mp hw).2⟩, fun x hx => ?_⟩
        cases e : ins x with
        | false => rfl
        | true => have := h2 x hx e; simpa using this
  have hs := hS p hp
  unfold chr
  rw [Bool.and_eq_true, Bool.and_eq_true, decide_eq_true_eq]
  constructor
  · rintro ⟨⟨hi, hn⟩, hc⟩
    have hw : want p = false := by
      cases e : want p with
      | false => rfl
      | true => exact absurd (hs.mpr (.inl ⟨hi, e⟩)) hn
    obtain ⟨k1, k2⟩ := (key hi hw).mp hc
    refine ⟨k1, ?_, k2⟩
    rcases Nat.lt_or_ge (cnt G S0 p) (lack G hand ins want p) with z | z
    · exact z
    · exact absurd (hs.mpr (.inr ⟨k1, z⟩)) hn
  · rintro ⟨h1, h2, h3⟩
    have hiw : ins p = true ∧ want p = false := by
      unfold lack at h1
      by_cases c : ins p = false ∨ want p = true
      · rw [if_pos c] at h1; omega
      · constructor
        · cases e : ins p with
          | true => rfl
          | false => exact absurd (.inl e) c
        · cases e : want p with
          | false => rfl
          | true => exact absurd (.inr e) c
    refine ⟨⟨hiw.1, fun hm => ?_⟩, (key hiw.1 hiw.2).mpr ⟨h1, h3⟩⟩
    rcases hs.mp hm with z | z
    · rw [hiw.2] at z; cases z.2
    · omega
theorem Seen.start : Seen G hand ins want [] (lay0 G ins want) := fun p hp => by
  unfold lay0
  rw [List.mem_filter, mem_rng, Bool.and_eq_true]
  have : cnt G [] p = 0 := by unfold cnt; simp
  rw [this]
  constructor
  · rintro ⟨_, h⟩; exact .inl h
  · rintro (h | h)
    · exact ⟨hp, h⟩
    · omega
theorem Seen.next (hG : WOkG G) {S0 S : List Int} (hS : Seen G hand ins want S0 S) (hin : ∀ x ∈ S, ins x = true) (h0 : ∀ x ∈ S0, x ∈ S) : Seen G hand ins want S (S ++ nxt G hand ins S) := fun p hp => by
  have hm := cnt_mono (G := G) h0 p
  rw [List.mem_append, hS p hp, nxt_mem, chr_count hG hS hin h0 hp]
  constructor
  · rintro ((h | h) | ⟨_, h⟩)
    · exact .inl h
    · exact .inr ⟨h.1, by omega⟩
    · exact .inr ⟨h.1, h.2.2⟩
  · rintro (h | ⟨h1, h2⟩)
    · exact .inl (.inl h)
    · by_cases c : lack G hand ins want p ≤ cnt G S0 p
      · exact .inl (.inr ⟨h1, c⟩)
      · exact .inr ⟨hp, h1, by omega, h2⟩
end
end Law

set_option linter.all false
namespace Law
open PySem L2
/-! ### the layers seen as depths -/
/-- p stands in the layer k of R -/
def lv (R : List (List Int)) (k : Nat) (p : Int) : Prop := ∃ L, R[k]? = some L ∧ p ∈ L
theorem lv_lt {R : List (List Int)} {k : Nat} {p : Int} (h : lv R k p) : k < R.length := by
  obtain ⟨L, h, _⟩ := h
  exact (List.getElem?_eq_some_iff.mp h).1
theorem lv_take {R : List (List Int)} {k : Nat} {p : Int} : p ∈ (R.take k).flatten ↔ ∃ j, j < k ∧ lv R j p := by
  rw [List.mem_flatten]
  constructor
  · rintro ⟨L, hL, hp⟩
    obtain ⟨j, hj⟩ := List.getElem?_of_mem hL
    rw [List.getElem?_take] at hj
    by_cases c : j < k
    · rw [if_pos c] at hj; exact ⟨j, c, L, hj, hp⟩
    · rw [if_neg c] at hj; cases hj
  · rintro ⟨j, c, L, hj, hp⟩
    exact ⟨L, List.mem_of_getElem? (i := j) (by rw [List.getElem?_take, if_pos c]; exact hj), hp⟩
theorem lv_flat {R : List (List Int)} {p : Int} : p ∈ R.flatten ↔ ∃ j, lv R j p := by
  have h := lv_take (R := R) (k := R.length) (p := p)
  rw [List.take_length] at h
  rw [h]
  exact ⟨fun ⟨j, _, h⟩ => ⟨j, h⟩, fun ⟨j, h⟩ => ⟨j, lv_lt h, h⟩⟩
theorem lv_ne {R : List (List Int)} {j k : Nat} {p : Int} (nd : R.flatten.Nodup) (c : j < k) (h1 : lv R j p) (h2 : lv R k p) : False := by
  have e : R.flatten = (R.take k).flatten ++ (R.drop k).flatten := by rw [← List.flatten_append, List.take_append_drop]
  rw [e, List.nodup_append] at nd
  obtain ⟨L, hL, hp⟩ := h2
  refine nd.2.2 p (lv_take.mpr ⟨j, c, h1⟩) p ?_ rfl
  rw [List.mem_flatten]
  exact ⟨L, List.mem_of_getElem? (i := 0) (by rw [List.getElem?_drop]; exact hL), hp⟩
theorem lv_one {R : List (List Int)} {j k : Nat} {p : Int} (nd : R.flatten.Nodup) (h1 : lv R j p) (h2 : lv R k p) : j = k := by
  rcases Nat.lt_trichotomy j k with h | h | h
  · exact (lv_ne nd h h1 h2).elim
  · exact h
  · exact (lv_ne nd h h2 h1).elim
section
variable (G : List Row) (hand : Int) (ins want : Int → Bool)
def nx (Ls : List (List Int)) : List Int := if Ls = [] then lay0 G ins want else nxt G hand ins Ls.flatten
def Chain (Ls : List (List Int)) : Prop := ∀ k L, Ls[k]? = some L → L = nx G hand ins want (Ls.take k) ∧ L ≠ []
/-- what is known of the layers -/
structure Lay (R : List (List Int)) : Prop where
  ch : Chain G hand ins want R
  nil : nx G hand ins want R = []
  li : LI G hand ins R []
end
section
variable {G : List Row} {hand : Int} {ins want : Int → Bool}
theorem chain_snoc {Ls : List (List Int)} {L : List Int} (h : Chain G hand ins want Ls) (e : L = nx G hand ins want Ls) (hne : L ≠ []) : Chain G hand ins want (Ls ++ [L]) := by
  intro k M hk
  by_cases c : k < Ls.length
  · rw [List.getElem?_append_left c] at hk
    rw [List.take_append_of_le_length (by omega)]
    exact h k M hk
  · have h2 := (List.getElem?_eq_some_iff.mp hk).1
    rw [List.length_append, List.length_singleton] at h2
    have hk2 : k = Ls.length := by omega
    subst hk2
    rw [List.getElem?_append_right (Nat.le_refl _), Nat.sub_self] at hk
    have : L = M := Option.some.inj hk
    subst this
    rw [List.take_append_of_le_length (Nat.le_refl _), List.take_length]
    exact ⟨e, hne⟩
theorem run_lay (k : Nat) : ∀ (Ls : List (List Int)) (L : List Int), LI G hand ins Ls L → Chain G hand ins want Ls → L = nx G hand ins want Ls → G.length + 1 ≤ k + Ls.flatten.length → Lay G hand ins want (run G hand ins k Ls L) := by
  induction k with
  | zero => intro Ls L h1 _ _ h4; have := h1.len; omega
  | succ k ih =>
    intro Ls L h1 h2 h3 h4
    show Lay G hand ins want (if L = [] then Ls else run G hand ins k (Ls ++ [L]) (nxt G hand ins (Ls.flatten ++ L)))
    by_cases c : L = []
    · rw [if_pos c]
      subst c
      exact ⟨h2, h3.symm, h1⟩
    · rw [if_neg c]
      have hfl : (Ls ++ [L]).flatten = Ls.flatten ++ L := by simp
      have : 0 < L.length := List.length_pos_iff.mpr c
      refine ih _ _ h1.next (chain_snoc h2 h3 c) ?_ (by rw [hfl, List.length_append]; omega)
      unfold nx
      rw [if_neg (by simp), hfl]
theorem layers_lay : Lay G hand ins want (layers G hand ins want) :=
  run_lay _ _ _ (LI.start want) (fun k L h => by simp at h) (by unfold nx; rw [if_pos rfl]) (by simp)
variable {R : List (List Int)}
theorem Lay.nd (h : Lay G hand ins want R) : R.flatten.Nodup := by have := h.li.nd; rwa [List.append_nil] at this
theorem take_ne {k : Nat} (h0 : 1 ≤ k) (h1 : k ≤ R.length) : R.take k ≠ [] := fun z => by
  have := congrArg List.length z
  rw [List.length_take] at this
  simp at this
  rcases this with h | h
  · omega
  · subst h; simp at h1; omega
theorem Lay.zero (h : Lay G hand ins want R) {p : Int} (hp : 0 ≤ p ∧ p < G.length) : lv R 0 p ↔ ins p = true ∧ want p = true := by
  have e : p ∈ lay0 G ins want ↔ ins p = true ∧ want p = true := by
    unfold lay0
    rw [List.mem_filter, mem_rng, Bool.and_eq_true]
    exact ⟨fun z => z.2, fun z => ⟨hp, z⟩⟩
  rw [← e]
  constructor
  · rintro ⟨L, h1, h2⟩
    have := (h.ch 0 L h1).1
    rw [this] at h2
    unfold nx at h2
    rw [List.take_zero, if_pos rfl] at h2
    exact h2
  · intro h1
    cases c : R with
    | nil =>
      have := h.nil
      rw [c] at this
      unfold nx at this
      rw [if_pos rfl] at this
      rw [this] at h1; cases h1
    | cons L R' =>
      refine ⟨L, rfl, ?_⟩
      have := (h.ch 0 L (by rw [c]; rfl)).1
      unfold nx at this
      rw [List.take_zero, if_pos rfl] at this
      rw [this]; exact h1
theorem Lay.on (h : Lay G hand ins want R) {k : Nat} {p : Int} (hp : 0 ≤ p ∧ p < G.length) (h0 : 1 ≤ k) (h1 : k ≤ R.length) (hc : chr G hand ins (R.take k).flatten p = true) : lv R k p := by
  have hn := take_ne h0 h1
  have hm : p ∈ nx G hand ins want (R.take k) := by unfold nx; rw [if_neg hn]; exact nxt_mem.mpr ⟨hp, hc⟩
  by_cases c : k < R.length
  · have e : R[k]? = some R[k] := by simp
    exact ⟨_, e, by rw [(h.ch k _ e).1]; exact hm⟩
  · have : k = R.length := by (clear hp h0 hc hn; omega)
    subst this
    rw [List.take_length, h.nil] at hm; cases hm
theorem Lay.chr (h : Lay G hand ins want R) {k : Nat} {p : Int} (h0 : 1 ≤ k) (hl : lv R k p) : chr G hand ins (R.take k).flatten p = true := by
  obtain ⟨L, h1, h2⟩ := hl
  have h3 := (h.ch k L h1).1
  have h4 := (List.getElem?_eq_some_iff.mp h1).1
  unfold nx at h3
  rw [if_neg (take_ne h0 (by omega))] at h3
  rw [h3] at h2
  exact (nxt_mem.mp h2).2
theorem chr_iff {S : List Int} {p : Int} : Law.chr G hand ins S p = true ↔ ins p = true ∧ p ∉ S ∧ (if hd G p = hand then ∃ w ∈ wy G p, w ∈ S else (∃ w ∈ wy G p, ins w = true) ∧ ∀ w ∈ wy G p, ins w = true → w ∈ S) := by
  unfold Law.chr
  by_cases c : hd G p = hand
  · rw [if_pos c, if_pos c]; simp [and_assoc]
  · rw [if_neg c, if_neg c]
    simp only [Bool.and_eq_true, decide_eq_true_eq, List.any_eq_true, List.all_eq_true, Bool.or_eq_true, Bool.not_eq_true', and_assoc]
    refine ⟨fun ⟨a, b, c, d⟩ => ⟨a, b, c, fun w hw hi => (d w hw).resolve_left (by rw [hi]; simp)⟩, fun ⟨a, b, c, d⟩ => ⟨a, b, c, fun w hw => ?_⟩⟩
    cases e : ins w with
    | false => exact .inl rfl
    | true => exact .inr (d w hw e)
/-- the hand's own place: one more than the least of its ways -/
theorem Lay.own (h : Lay G hand ins want R) {p : Int} (hp : 0 ≤ p ∧ p < G.length) (hi : ins p = true) (hw : want p = false) (ho : hd G p = hand) :
    (∀ k, lv R k p → ∃ j, k = j + 1 ∧ (∃ w ∈ wy G p, lv R j w) ∧ ∀ w ∈ wy G p, ∀ i, lv R i w → j ≤ i) ∧ ((∀ k, ¬ lv R k p) → ∀ w ∈ wy G p, ∀ i, ¬ lv R i w) := by
  have mk : ∀ i w, w ∈ wy G p → lv R i w → (∀ j, j ≤ i → ¬ lv R j p) → lv R (i + 1) p := fun i w hw1 hl hno => by
    refine h.on hp (by (clear hp hi hw ho hno; omega)) (lv_lt hl) (chr_iff.mpr ⟨hi, fun z => ?_, ?_⟩)
    · obtain ⟨j, hj, hl2⟩ := lv_take.mp z
      exact hno j (by (clear hp hi hw ho hno; omega)) hl2
    · rw [if_pos ho]
      exact ⟨w, hw1, lv_take.mpr ⟨i, by omega, hl⟩⟩
  constructor
  · intro k hk
    cases k with
    | zero => rw [((h.zero hp).mp hk).2] at hw; cases hw
    | succ j =>
      obtain ⟨_, c2, c3⟩ := chr_iff.mp (h.chr (by (clear hp hi hw ho mk; omega)) hk)
      rw [if_pos ho] at c3
      have least : ∀ w ∈ wy G p, ∀ i, lv R i w → j ≤ i := fun w hw1 i hl => by
        rcases Nat.lt_or_ge i j with c | c
        · have := mk i w hw1 hl fun j' hj' hl' => by have := lv_one h.nd hl' hk; (clear hp hi hw ho mk c2; omega)
          have := lv_one h.nd this hk
          (clear hp hi hw ho mk c2 c; omega)
        · exact c
      obtain ⟨w, hw1, hw2⟩ := c3
      obtain ⟨i, hi2, hl⟩ := lv_take.mp hw2
      have := least w hw1 i hl
      have e : i = j := by (clear hp hi hw ho mk c2 least; omega)
      subst e
      exact ⟨i, rfl, ⟨w, hw1, hl⟩, least⟩
  · intro hno w hw1 i hl
    exact hno _ (mk i w hw1 hl fun j _ => hno j)
/-- the other's place: one more than the greatest of its ways -/
theorem Lay.oth (h : Lay G hand ins want R) {p : Int} (hp : 0 ≤ p ∧ p < G.length) (hi : ins p = true) (hw : want p = false) (ho : ¬ hd G p = hand) :
    (∀ k, lv R k p → ∃ j, k = j + 1 ∧ (∃ w ∈ wy G p, ins w = true ∧ lv R j w) ∧ ∀ w ∈ wy G p, ins w = true → ∃ i, i ≤ j ∧ lv R i w) ∧
    ((∀ k, ¬ lv R k p) → (∀ w ∈ wy G p, ins w = false) ∨ ∃ w ∈ wy G p, ins w = true ∧ ∀ i, ¬ lv R i w) := by
  have mk : ∀ k, 1 ≤ k → k ≤ R.length → (∃ w ∈ wy G p, ins w = true) → (∀ w ∈ wy G p, ins w = true → ∃ i, i < k ∧ lv R i w) → (∀ j, j < k → ¬ lv R j p) → lv R k p := fun k k0 k1 he ha hno => by
    refine h.on hp k0 k1 (chr_iff.mpr ⟨hi, fun z => ?_, ?_⟩)
    · obtain ⟨j, hj, hl2⟩ := lv_take.mp z
      exact hno j hj hl2
    · rw [if_neg ho]
      exact ⟨he, fun w hw1 hw2 => lv_take.mpr (ha w hw1 hw2)⟩
  constructor
  · intro k hk
    cases k with
    | zero => rw [((h.zero hp).mp hk).2] at hw; cases hw
    | succ j =>
      obtain ⟨_, c2, c3⟩ := chr_iff.mp (h.chr (by omega) hk)
      rw [if_neg ho] at c3
      obtain ⟨he, ha⟩ := c3
      have ha' : ∀ w ∈ wy G p, ins w = true → ∃ i, i < j + 1 ∧ lv R i w := fun w hw1 hw2 => lv_take.mp (ha w hw1 hw2)
      refine ⟨j, rfl, ?_, fun w hw1 hw2 => by obtain ⟨i, a, b⟩ := ha' w hw1 hw2; exact ⟨i, by omega, b⟩⟩
      refine Classical.byContradiction fun hno => ?_
      have hl : ∀ w ∈ wy G p, ins w = true → ∃ i, i < j ∧ lv R i w := fun w hw1 hw2 => by
        obtain ⟨i, a, b⟩ := ha' w hw1 hw2
        rcases Nat.lt_or_ge i j with c | c
        · exact ⟨i, c, b⟩
        · have : i = j := by (clear hp hi hw ho mk c2 ha ha' hno hw2; omega)
          subst this
          exact (hno ⟨w, hw1, hw2, b⟩).elim
      obtain ⟨w, hw1, hw2⟩ := he
      obtain ⟨i, hij, _⟩ := hl w hw1 hw2
      have := lv_lt hk
      have h2 := mk j (by (clear hp hi hw ho mk c2 ha ha' hno hl hw2 this; omega)) (by (clear hp hi hw ho mk c2 ha ha' hno hl hw2 hij; omega)) ⟨w, hw1, hw2⟩ hl fun j' hj' hl' => by have := lv_one h.nd hl' hk; omega
      have := lv_one h.nd h2 hk
      omega
  · intro hno
    refine Classical.byContradiction fun hn => ?_
    have he : ∃ w ∈ wy G p, ins w = true := Classical.byContradiction fun z => hn (.inl fun w hw1 => by
      cases e : ins w with
      | false => rfl
      | true => exact (z ⟨w, hw1, e⟩).elim)
    have ha : ∀ w ∈ wy G p, ins w = true → ∃ i, i < R.length ∧ lv R i w := fun w hw1 hw2 => Classical.byContradiction fun z => hn (.inr ⟨w, hw1, hw2, fun i hl => z ⟨i, lv_lt hl, hl⟩⟩)
    obtain ⟨w, hw1, hw2⟩ := he
    obtain ⟨i, hij, _⟩ := ha w hw1 hw2
    exact hno _ (mk R.length (by (clear hp hi hw ho mk hno hn ha hw2; omega)) (Nat.le_refl _) ⟨w, hw1, hw2⟩ ha fun j _ => hno j)
end
end Law

set_option linter.all false
namespace Law
open PySem L2
/-! ### the ways of pulling, by the layers -/
def nthL (R : List (List Int)) (k : Nat) : List Int := (R[k]?).getD []
theorem lv_nth {R : List (List Int)} {k : Nat} {p : Int} : lv R k p ↔ p ∈ nthL R k := by
  unfold lv nthL
  cases e : R[k]? with
  | none => simp
  | some L => simp
/-- the least way out to the layer k -/
def pickW (G : List Row) (R : List (List Int)) (p : Int) (k : Nat) : Option Int := ((wy G p).filter fun w => decide (w ∈ nthL R k)).head?
/-- where S k p is, the rule has the way to the layer k, else None -/
def PR (G : List Row) (R : List (List Int)) (S : Nat → Int → Prop) (X : Int → Option Int) : Prop := ∀ p : Int, 0 ≤ p → p < G.length → (∀ k, S k p → X p = pickW G R p k) ∧ ((∀ k, ¬ S k p) → X p = none)
section
variable {G : List Row} {hand : Int} {ins want : Int → Bool} {R : List (List Int)}
theorem PR.congr {S S' : Nat → Int → Prop} {X : Int → Option Int} (h : PR G R S X) (e : ∀ k p, S k p ↔ S' k p) : PR G R S' X := fun p p0 p1 => by
  obtain ⟨a, b⟩ := h p p0 p1
  exact ⟨fun k hk => a k ((e k p).mpr hk), fun hn => b fun k hk => hn k ((e k p).mp hk)⟩
theorem PR.set {S S' : Nat → Int → Prop} {X : Int → Option Int} {z v : Int} {i : Nat} (h : PR G R S X) (e : ∀ k p, p ≠ z → (S' k p ↔ S k p)) (hz : ∀ k, S' k z ↔ k = i) (hv : pickW G R z i = some v) : PR G R S' (fun x => if x = z then some v else X x) := fun p p0 p1 => by
  by_cases c : p = z
  · subst c
    show (∀ k, S' k p → (if p = p then some v else X p) = _) ∧ ((∀ k, ¬ S' k p) → (if p = p then some v else X p) = none)
    rw [if_pos rfl]
    refine ⟨fun k hk => ?_, fun hn => (hn i ((hz i).mpr rfl)).elim⟩
    rw [(hz k).mp hk, hv]
  · show (∀ k, S' k p → (if p = z then some v else X p) = _) ∧ ((∀ k, ¬ S' k p) → (if p = z then some v else X p) = none)
    rw [if_neg c]
    obtain ⟨a, b⟩ := h p p0 p1
    exact ⟨fun k hk => a k ((e k p c).mp hk), fun hn => b fun k hk => hn k ((e k p c).mpr hk)⟩
theorem PR.zero (S : Nat → Int → Prop) (h : ∀ k p, ¬ S k p) : PR G R S (fun _ => none) := fun p _ _ => ⟨fun k hk => (h k p hk).elim, fun _ => rfl⟩
theorem Lay.inn (hL : Lay G hand ins want R) {i : Nat} {w : Int} (h : lv R i w) : ins w = true := hL.li.inn w (List.mem_append_left _ (lv_flat.mpr ⟨i, h⟩))
theorem Lay.rg (hL : Lay G hand ins want R) {i : Nat} {w : Int} (h : lv R i w) : 0 ≤ w ∧ w < G.length := hL.li.rg w (List.mem_append_left _ (lv_flat.mpr ⟨i, h⟩))
theorem Lay.nwant (hL : Lay G hand ins want R) {i : Nat} {p : Int} (h : lv R (i + 1) p) : want p = false := by
  cases e : want p with
  | false => rfl
  | true =>
    have h0 := (hL.zero (hL.rg h)).mpr ⟨hL.inn h, e⟩
    have := lv_one hL.nd h0 h
    omega
/-- a place of the hand behind the first layer has a way to the layer just ahead -/
theorem Lay.pick (hL : Lay G hand ins want R) {i : Nat} {p : Int} (h : lv R (i + 1) p) (ho : hd G p = hand) : ∃ v, pickW G R p i = some v ∧ v ∈ wy G p ∧ lv R i v := by
  obtain ⟨j, e, ⟨w, hw1, hw2⟩, _⟩ := (hL.own (hL.rg h) (hL.inn h) (hL.nwant h) ho).1 _ h
  have : i = j := by omega
  subst this
  have hm : w ∈ (wy G p).filter fun w => decide (w ∈ nthL R i) := List.mem_filter.mpr ⟨hw1, decide_eq_true (lv_nth.mp hw2)⟩
  unfold pickW
  cases e : (wy G p).filter fun w => decide (w ∈ nthL R i) with
  | nil => rw [e] at hm; cases hm
  | cons v vs =>
    have hv : v ∈ (wy G p).filter fun w => decide (w ∈ nthL R i) := by rw [e]; exact List.mem_cons_self ..
    obtain ⟨a, b⟩ := List.mem_filter.mp hv
    exact ⟨v, rfl, a, lv_nth.mpr (of_decide_eq_true b)⟩
theorem head_least {l : List Int} (h : l.Pairwise (· < ·)) {M v : Int} (hv : l.head? = some v) (hM : M ∈ l) (hmin : ∀ k ∈ l, M ≤ k) : M = v := by
  cases l with
  | nil => cases hM
  | cons a l =>
    have : a = v := by simpa using hv
    subst this
    rcases List.mem_cons.mp hM with e | e
    · exact e
    · have := hmin a (List.mem_cons_self ..)
      have := (List.pairwise_cons.mp h).1 M e
      omega
end
end Law

set_option linter.all false
namespace Law
open PySem L2
/-! ### what is kept -/
def outs (n : Nat) (ps : List Int) : List Int := (rng n).filter fun x => !decide (x ∈ ps)
theorem outs_mem {n : Nat} {ps : List Int} {p : Int} : p ∈ outs n ps ↔ (0 ≤ p ∧ p < n) ∧ p ∉ ps := by
  unfold outs
  rw [List.mem_filter, mem_rng]; simp
theorem outs_len (n : Nat) (ps : List Int) : (outs n ps).length ≤ n := Nat.le_trans (List.length_filter_le _ _) (by unfold rng; simp)
def NE (G : List Row) : Prop := ∀ row ∈ G, row.2.2 ≠ []
def H01 (G : List Row) : Prop := ∀ row ∈ G, row.1 = 0 ∨ row.1 = 1
theorem wy_ne {G : List Row} (h : NE G) {p : Int} (hp : 0 ≤ p ∧ p < G.length) : ∃ w, w ∈ wy G p := by
  obtain ⟨row, hrw⟩ : ∃ row, G[p.toNat]? = some row := ⟨G[p.toNat]'(by omega), by simp⟩
  rw [wy_at hrw]
  have := h row (List.mem_of_getElem? hrw)
  cases e : row.2.2 with
  | nil => exact absurd e this
  | cons a l => exact ⟨a, List.mem_cons_self ..⟩
theorem hd01 {G : List Row} (h : H01 G) {p : Int} (hp : 0 ≤ p ∧ p < G.length) : hd G p = 0 ∨ hd G p = 1 := by
  obtain ⟨row, hrw⟩ : ∃ row, G[p.toNat]? = some row := ⟨G[p.toNat]'(by omega), by simp⟩
  rw [hd_at hrw]
  exact h row (List.mem_of_getElem? hrw)
/-- the places that no layer has -/
def rest (G : List Row) (R : List (List Int)) : List Int := outs G.length R.flatten
section
variable {G : List Row} {hand : Int} {want : Int → Bool} {R : List (List Int)}
theorem rest_mem {p : Int} : p ∈ rest G R ↔ (0 ≤ p ∧ p < G.length) ∧ ∀ k, ¬ lv R k p := by
  unfold rest
  rw [outs_mem, lv_flat]
  exact ⟨fun h => ⟨h.1, fun k hk => h.2 ⟨k, hk⟩⟩, fun h => ⟨h.1, fun ⟨k, hk⟩ => h.2 k hk⟩⟩
theorem rest_nw (hL : Lay G hand (fun _ => true) want R) {p : Int} (h : p ∈ rest G R) : want p = false := by
  obtain ⟨a, b⟩ := rest_mem.mp h
  cases e : want p with
  | false => rfl
  | true => exact (b 0 ((hL.zero a).mpr ⟨rfl, e⟩)).elim
/-- who is not the pulling hand has a way that stays -/
theorem rest_oth (hL : Lay G hand (fun _ => true) want R) (hw : WOkG G) (hne : NE G) {p : Int} (h : p ∈ rest G R) (ho : ¬ hd G p = hand) : ∃ w ∈ wy G p, w ∈ rest G R := by
  obtain ⟨a, b⟩ := rest_mem.mp h
  rcases (hL.oth a rfl (rest_nw hL h) ho).2 b with h1 | ⟨w, h1, _, h2⟩
  · obtain ⟨w, hw1⟩ := wy_ne hne a
    exact absurd (h1 w hw1) (by simp)
  · exact ⟨w, h1, rest_mem.mpr ⟨wy_in hw h1, h2⟩⟩
/-- the pulling hand has none that leads out -/
theorem rest_own (hL : Lay G hand (fun _ => true) want R) (hw : WOkG G) {p : Int} (h : p ∈ rest G R) (ho : hd G p = hand) : ∀ w ∈ wy G p, w ∈ rest G R := fun w hw1 => by
  obtain ⟨a, b⟩ := rest_mem.mp h
  exact rest_mem.mpr ⟨wy_in hw hw1, fun i => (hL.own a rfl (rest_nw hL h) ho).2 b w hw1 i⟩
end
/-- the ways of keeping in S -/
def kwX (G : List Row) (hand : Int) (S : List Int) (p : Int) : Option Int := if decide (p ∈ S) && decide (hd G p = hand) then ((wy G p).filter fun w => decide (w ∈ S)).head? else none
theorem kw_some {G : List Row} {hand : Int} {S : List Int} {p : Int} (h1 : p ∈ S) (h2 : hd G p = hand) (h3 : ∃ w ∈ wy G p, w ∈ S) : ∃ v, ((wy G p).filter fun w => decide (w ∈ S)).head? = some v ∧ kwX G hand S p = some v ∧ v ∈ wy G p ∧ v ∈ S := by
  obtain ⟨w, hw1, hw2⟩ := h3
  have hm : w ∈ (wy G p).filter fun w => decide (w ∈ S) := List.mem_filter.mpr ⟨hw1, decide_eq_true hw2⟩
  unfold kwX
  rw [decide_eq_true h1, decide_eq_true h2]
  cases e : (wy G p).filter fun w => decide (w ∈ S) with
  | nil => rw [e] at hm; cases hm
  | cons v vs =>
    have hv : v ∈ (wy G p).filter fun w => decide (w ∈ S) := by rw [e]; exact List.mem_cons_self ..
    obtain ⟨a, b⟩ := List.mem_filter.mp hv
    exact ⟨v, rfl, rfl, a, of_decide_eq_true b⟩
theorem kw_none {G : List Row} {hand : Int} {S : List Int} {p : Int} (h : ¬ (p ∈ S ∧ hd G p = hand)) : kwX G hand S p = none := by
  unfold kwX
  rw [if_neg]
  rw [Bool.and_eq_true, decide_eq_true_eq, decide_eq_true_eq]; exact h
end Law

set_option linter.all false
namespace Law
open PySem L2
/-! ### coming to a goal, or never -/
theorem layers_cw {G : List Row} {hand : Int} {ins want want' : Int → Bool} (e : ∀ x : Int, 0 ≤ x → x < G.length → want x = want' x) : layers G hand ins want = layers G hand ins want' := by
  unfold layers
  have : lay0 G ins want = lay0 G ins want' := by
    unfold lay0
    refine List.filter_congr fun p hp => ?_
    obtain ⟨a, b⟩ := mem_rng.mp hp
    rw [e p a b]
  rw [this]
theorem outs_outs {n : Nat} {ps : List Int} {x : Int} (h0 : 0 ≤ x) (h1 : x < n) : decide (x ∈ outs n (outs n ps)) = decide (x ∈ ps) := by
  rw [Bool.eq_iff_iff, decide_eq_true_eq, decide_eq_true_eq, outs_mem, outs_mem]
  constructor
  · rintro ⟨_, h⟩
    exact Classical.byContradiction fun z => h ⟨⟨h0, h1⟩, z⟩
  · intro h
    exact ⟨⟨h0, h1⟩, fun z => z.2 h⟩
/-- the ways told of both hands -/
def wayB (G : List Row) (R : List (List Int)) (X : Int → Option Int) (p : Int) : Option Int := match X p with
  | some v => some v
  | none => kwX G 1 (rest G R) p
section
variable {G : List Row} {want : Int → Bool} {R : List (List Int)} {X : Int → Option Int}
theorem wayB_0 (hL : Lay G 0 (fun _ => true) want R) (hX : PR G R (fun k p => lv R (k + 1) p ∧ hd G p = 0) X) {p : Int} {j : Nat} (h0 : hd G p = 0) (hl : lv R (j + 1) p) : ∃ v, wayB G R X p = some v ∧ pickW G R p j = some v ∧ v ∈ wy G p ∧ lv R j v := by
  obtain ⟨v, h1, h2, h3⟩ := hL.pick hl h0
  obtain ⟨a, b⟩ := hL.rg hl
  refine ⟨v, ?_, h1, h2, h3⟩
  unfold wayB
  rw [(hX p a b).1 j ⟨hl, h0⟩, h1]
theorem wayB_0n (hX : PR G R (fun k p => lv R (k + 1) p ∧ hd G p = 0) X) {p : Int} (hp : 0 ≤ p ∧ p < G.length) (h0 : hd G p = 0) (hl : ∀ j, ¬ lv R (j + 1) p) : wayB G R X p = none := by
  unfold wayB
  rw [(hX p hp.1 hp.2).2 fun k z => hl k z.1]
  exact kw_none fun z => by omega
theorem wayB_1 (hL : Lay G 0 (fun _ => true) want R) (hw : WOkG G) (hne : NE G) (hX : PR G R (fun k p => lv R (k + 1) p ∧ hd G p = 0) X) {p : Int} (h1 : hd G p = 1) (hr : p ∈ rest G R) : ∃ v, wayB G R X p = some v ∧ ((wy G p).filter fun w => decide (w ∈ rest G R)).head? = some v ∧ v ∈ wy G p ∧ v ∈ rest G R := by
  obtain ⟨a, b⟩ := (rest_mem.mp hr).1
  obtain ⟨v, e1, e2, e3, e4⟩ := kw_some (hand := 1) hr h1 (rest_oth hL hw hne hr (by omega))
  refine ⟨v, ?_, e1, e3, e4⟩
  unfold wayB
  rw [(hX p a b).2 fun k z => by omega, e2]
theorem wayB_1n (hX : PR G R (fun k p => lv R (k + 1) p ∧ hd G p = 0) X) {p : Int} (hp : 0 ≤ p ∧ p < G.length) (h1 : hd G p = 1) (hr : p ∉ rest G R) : wayB G R X p = none := by
  unfold wayB
  rw [(hX p hp.1 hp.2).2 fun k z => by omega]
  exact kw_none fun z => hr z.1
/-- what the law's round finds is the next layer -/
def roundB (G : List Row) (W : Int → Option Int) (S : List Int) (p : Int) : Bool := decide (p ∉ S) && (if hd G p = 0 then (match W p with | some v => decide (v ∈ S) | none => false) else ((wy G p).all fun w => decide (w ∈ S)))
theorem round_chr (hL : Lay G 0 (fun _ => true) want R) (hne : NE G) (hX : PR G R (fun k p => lv R (k + 1) p ∧ hd G p = 0) X) {k : Nat} (hk : 1 ≤ k) (hkR : k ≤ R.length ∨ R = []) {p : Int} (hp : 0 ≤ p ∧ p < G.length) : roundB G (wayB G R X) (R.take k).flatten p = chr G 0 (fun _ => true) (R.take k).flatten p := by
  obtain ⟨w0, hw0⟩ := wy_ne hne hp
  rw [Bool.eq_iff_iff, chr_iff]
  unfold roundB
  rw [Bool.and_eq_true, decide_eq_true_eq]
  by_cases c : hd G p = 0
  · rw [if_pos c, if_pos c]
    constructor
    · rintro ⟨h1, h2⟩
      refine ⟨rfl, h1, ?_⟩
      by_cases e : ∃ j, lv R (j + 1) p
      · obtain ⟨j, hj⟩ := e
        obtain ⟨v, e1, _, e3, _⟩ := wayB_0 hL hX c hj
        rw [e1] at h2
        exact ⟨v, e3, of_decide_eq_true h2⟩
      · rw [wayB_0n hX hp c fun j z => e ⟨j, z⟩] at h2
        cases h2
    · rintro ⟨_, h1, w, h2, h3⟩
      refine ⟨h1, ?_⟩
      have hkR' : k ≤ R.length := by
        rcases hkR with h | h
        · exact h
        · rw [h] at h3; simp at h3
      have hl : lv R k p := hL.on hp hk hkR' (chr_iff.mpr ⟨rfl, h1, by rw [if_pos c]; exact ⟨w, h2, h3⟩⟩)
      obtain ⟨j, rfl⟩ : ∃ j, k = j + 1 := ⟨k - 1, by omega⟩
      obtain ⟨v, e1, _, _, e4⟩ := wayB_0 hL hX c hl
      rw [e1]
      exact decide_eq_true (lv_take.mpr ⟨j, by omega, e4⟩)
  · rw [if_neg c, if_neg c, List.all_eq_true]
    constructor
    · rintro ⟨h1, h2⟩
      exact ⟨rfl, h1, ⟨w0, hw0, rfl⟩, fun w hw _ => of_decide_eq_true (h2 w hw)⟩
    · rintro ⟨_, h1, _, h2⟩
      exact ⟨h1, fun w hw => decide_eq_true (h2 w hw rfl)⟩
theorem chr_nil {hand : Int} (hne : NE G) {p : Int} (hp : 0 ≤ p ∧ p < G.length) : chr G hand (fun _ => true) [] p = false := by
  cases e : chr G hand (fun _ => true) [] p with
  | false => rfl
  | true =>
    obtain ⟨_, _, h3⟩ := chr_iff.mp e
    obtain ⟨w, hw⟩ := wy_ne hne hp
    split at h3
    · obtain ⟨w, _, h4⟩ := h3; cases h4
    · exact absurd (h3.2 w hw rfl) (by simp)
theorem nth_next (hL : Lay G 0 (fun _ => true) want R) (hne : NE G) {k : Nat} (hk : 1 ≤ k) (hkR : k ≤ R.length ∨ R = []) : nthL R k = (rng G.length).filter (chr G 0 (fun _ => true) (R.take k).flatten) := by
  by_cases h : R = []
  · subst h
    have : (rng G.length).filter (chr G 0 (fun _ => true) (([] : List (List Int)).take k).flatten) = [] := by
      rw [List.filter_eq_nil_iff]
      intro p hp
      have := chr_nil (hand := 0) hne (mem_rng.mp hp)
      simp [this]
    rw [this]; rfl
  · have hkR' : k ≤ R.length := hkR.resolve_right h
    have hn := take_ne (R := R) hk hkR'
    by_cases c : k < R.length
    · have e : R[k]? = some R[k] := by simp
      have := (hL.ch k _ e).1
      unfold nx at this
      rw [if_neg hn] at this
      unfold nthL
      rw [e]
      exact this
    · have : k = R.length := by omega
      subst this
      have h2 := hL.nil
      unfold nx at h2
      rw [if_neg h] at h2
      rw [List.take_length]
      unfold nthL
      rw [List.getElem?_eq_none (Nat.le_refl _)]
      exact h2.symm
end
end Law

set_option Elab.async false
set_option linter.all false
set_option maxRecDepth 100000
set_option maxHeartbeats 4000000
namespace Law
open PySem L2
def top (i : Nat) : Stmt := PySem.Challenge.pw_rankgarth_k11_whole_reached.main.body.getD i (.Pass ⟨0, 0, 0, 0⟩)
abbrev s_is_whole : Stmt := top 1
abbrev s_is_place : Stmt := top 2
abbrev s_ways_in : Stmt := top 3
abbrev s_place_marks : Stmt := top 5
abbrev s_part_marks : Stmt := top 6
abbrev s_lacking_ways : Stmt := top 7
abbrev s_next_layer : Stmt := top 8
abbrev s_layers_to : Stmt := top 9
abbrev s_pulled : Stmt := top 10
abbrev s_least_way : Stmt := top 11
abbrev s_layer_ways : Stmt := top 12
abbrev s_pull_ways : Stmt := top 13
abbrev s_places_outside : Stmt := top 14
abbrev s_pulled_places : Stmt := top 15
abbrev s_kept : Stmt := top 16
abbrev s_keep_ways : Stmt := top 17
abbrev s_reached : Stmt := top 18
abbrev s_law_cell_at : Stmt := top 20
abbrev s_law_many : Stmt := top 21
abbrev s_law_ways : Stmt := top 22
abbrev s_law_game : Stmt := top 23
abbrev s_law_goal : Stmt := top 24
abbrev s_law_whole : Stmt := top 25
abbrev s_law_kinds : Stmt := top 26
abbrev s_law_round : Stmt := top 27
abbrev s_law_sure : Stmt := top 28
abbrev s_law_way_due : Stmt := top 29
abbrev s_law_walked : Stmt := top 30
abbrev s_law_play : Stmt := top 31
abbrev s_law : Stmt := top 32
structure Txt (mg : Str → Option Value) : Prop where
  b_bool : mg "bool" = none
  b_enumerate : mg "enumerate" = none
  b_int : mg "int" = none
  b_isinstance : mg "isinstance" = none
  b_len : mg "len" = none
  b_list : mg "list" = none
  b_min : mg "min" = none
  b_range : mg "range" = none
  b_set : mg "set" = none
  b_sorted : mg "sorted" = none
  b_tuple : mg "tuple" = none
  b_zip : mg "zip" = none
theorem sc_is_whole : FnScope ["value"] ["value"] (defScope s_is_whole) := ⟨rfl, rfl, rfl, by decide +kernel, rfl, by decide +kernel, by decide +kernel⟩
theorem sc_is_place : FnScope ["value", "count"] ["value", "count"] (defScope s_is_place) := ⟨rfl, rfl, rfl, by decide +kernel, rfl, by decide +kernel, by decide +kernel⟩
theorem sc_ways_in : FnScope ["game", "entries", "place", "row", "way"] ["game"] (defScope s_ways_in) := ⟨rfl, rfl, rfl, by decide +kernel, rfl, by decide +kernel, by decide +kernel⟩
theorem sc_place_marks : FnScope ["count", "places", "marks", "place"] ["count", "places"] (defScope s_place_marks) := ⟨rfl, rfl, rfl, by decide +kernel, rfl, by decide +kernel, by decide +kernel⟩
theorem sc_part_marks : FnScope ["game", "part"] ["game", "part"] (defScope s_part_marks) := ⟨rfl, rfl, rfl, by decide +kernel, rfl, by decide +kernel, by decide +kernel⟩
theorem sc_lacking_ways : FnScope ["game", "hand", "inside", "wanted", "lacking", "place", "row"] ["game", "hand", "inside", "wanted"] (defScope s_lacking_ways) := ⟨rfl, rfl, rfl, by decide +kernel, rfl, by decide +kernel, by decide +kernel⟩
theorem sc_next_layer : FnScope ["layer", "entries", "lacking", "joined", "place", "source"] ["layer", "entries", "lacking"] (defScope s_next_layer) := ⟨rfl, rfl, rfl, by decide +kernel, rfl, by decide +kernel, by decide +kernel⟩
theorem sc_layers_to : FnScope ["game", "entries", "hand", "goal", "part", "inside", "wanted", "lacking", "layers", "layer"] ["game", "entries", "hand", "goal", "part"] (defScope s_layers_to) := ⟨rfl, rfl, rfl, by decide +kernel, rfl, by decide +kernel, by decide +kernel⟩
theorem sc_pulled : FnScope ["game", "hand", "goal", "part"] ["game", "hand", "goal", "part"] (defScope s_pulled) := ⟨rfl, rfl, rfl, by decide +kernel, rfl, by decide +kernel, by decide +kernel⟩
theorem sc_least_way : FnScope ["ways", "marks"] ["ways", "marks"] (defScope s_least_way) := ⟨rfl, rfl, rfl, by decide +kernel, rfl, by decide +kernel, by decide +kernel⟩
theorem sc_layer_ways : FnScope ["game", "hand", "layers", "rule", "ahead", "layer", "marks", "place"] ["game", "hand", "layers"] (defScope s_layer_ways) := ⟨rfl, rfl, rfl, by decide +kernel, rfl, by decide +kernel, by decide +kernel⟩
theorem sc_pull_ways : FnScope ["game", "hand", "goal", "part"] ["game", "hand", "goal", "part"] (defScope s_pull_ways) := ⟨rfl, rfl, rfl, by decide +kernel, rfl, by decide +kernel, by decide +kernel⟩
theorem sc_places_outside : FnScope ["game", "places", "marks"] ["game", "places"] (defScope s_places_outside) := ⟨rfl, rfl, rfl, by decide +kernel, rfl, by decide +kernel, by decide +kernel⟩
theorem sc_pulled_places : FnScope ["game", "hand", "goal", "places", "layer"] ["game", "hand", "goal"] (defScope s_pulled_places) := ⟨rfl, rfl, rfl, by decide +kernel, rfl, by decide +kernel, by decide +kernel⟩
theorem sc_kept : FnScope ["game", "hand", "some"] ["game", "hand", "some"] (defScope s_kept) := ⟨rfl, rfl, rfl, by decide +kernel, rfl, by decide +kernel, by decide +kernel⟩
theorem sc_keep_ways : FnScope ["game", "hand", "some", "marks", "rule", "place", "row"] ["game", "hand", "some"] (defScope s_keep_ways) := ⟨rfl, rfl, rfl, by decide +kernel, rfl, by decide +kernel, by decide +kernel⟩
theorem sc_reached : FnScope ["game", "goal", "marks", "hands", "pulls", "keeps", "ways"] ["game", "goal"] (defScope s_reached) := ⟨rfl, rfl, rfl, by decide +kernel, rfl, by decide +kernel, by decide +kernel⟩
theorem sc_law_cell_at : FnScope ["_law_script", "_law_k", "_law_number"] ["_law_script", "_law_k"] (defScope s_law_cell_at) := ⟨rfl, rfl, rfl, by decide +kernel, rfl, by decide +kernel, by decide +kernel⟩
theorem sc_law_many : FnScope ["_law_script", "_law_cell"] ["_law_script"] (defScope s_law_many) := ⟨rfl, rfl, rfl, by decide +kernel, rfl, by decide +kernel, by decide +kernel⟩
theorem sc_law_ways : FnScope ["_law_one", "_law_other", "_law_k", "_law_many_here", "_law_near", "_law_ways_here", "_law_j"] ["_law_one", "_law_other", "_law_k", "_law_many_here", "_law_near"] (defScope s_law_ways) := ⟨rfl, rfl, rfl, by decide +kernel, rfl, by decide +kernel, by decide +kernel⟩
theorem sc_law_game : FnScope ["_law_script", "_law_many_here", "_law_near", "_law_game_here", "_law_k", "_law_one", "_law_ways_here", "_law_rank"] ["_law_script", "_law_many_here"] (defScope s_law_game) := ⟨rfl, rfl, rfl, by decide +kernel, rfl, by decide +kernel, by decide +kernel⟩
theorem sc_law_goal : FnScope ["_law_script", "_law_many_here", "_law_cell", "_law_size"] ["_law_script", "_law_many_here"] (defScope s_law_goal) := ⟨rfl, rfl, rfl, by decide +kernel, rfl, by decide +kernel, by decide +kernel⟩
theorem sc_law_whole : FnScope ["_law_found"] ["_law_found"] (defScope s_law_whole) := ⟨rfl, rfl, rfl, by decide +kernel, rfl, by decide +kernel, by decide +kernel⟩
theorem sc_law_kinds : FnScope ["_law_game_here", "_law_found", "_law_at", "_law_way"] ["_law_game_here", "_law_found"] (defScope s_law_kinds) := ⟨rfl, rfl, rfl, by decide +kernel, rfl, by decide +kernel, by decide +kernel⟩
theorem sc_law_round : FnScope ["_law_game_here", "_law_ways_here", "_law_sure_here", "_law_k", "_law_found", "_law_at", "_law_led"] ["_law_game_here", "_law_ways_here", "_law_sure_here", "_law_k"] (defScope s_law_round) := ⟨rfl, rfl, rfl, by decide +kernel, rfl, by decide +kernel, by decide +kernel⟩
theorem sc_law_sure : FnScope ["_law_game_here", "_law_goal_here", "_law_ways_here", "_law_sure_here", "_law_more", "_law_k", "_law_at"] ["_law_game_here", "_law_goal_here", "_law_ways_here"] (defScope s_law_sure) := ⟨rfl, rfl, rfl, by decide +kernel, rfl, by decide +kernel, by decide +kernel⟩
theorem sc_law_way_due : FnScope ["_law_place", "_law_at", "_law_sure_here", "_law_goal_here"] ["_law_place", "_law_at", "_law_sure_here", "_law_goal_here"] (defScope s_law_way_due) := ⟨rfl, rfl, rfl, by decide +kernel, rfl, by decide +kernel, by decide +kernel⟩
theorem sc_law_walked : FnScope ["_law_game_here", "_law_goal_here", "_law_won", "_law_ways_here", "_law_sure_here", "_law_at", "_law_out", "_law_nearest"] ["_law_game_here", "_law_goal_here", "_law_won", "_law_ways_here"] (defScope s_law_walked) := ⟨rfl, rfl, rfl, by decide +kernel, rfl, by decide +kernel, by decide +kernel⟩
theorem sc_law_play : FnScope ["_law_script", "_law_game_here", "_law_goal_here", "_law_won", "_law_ways_here", "_law_at", "_law_first", "_law_k", "_law_way"] ["_law_script", "_law_game_here", "_law_goal_here", "_law_won", "_law_ways_here", "_law_at"] (defScope s_law_play) := ⟨rfl, rfl, rfl, by decide +kernel, rfl, by decide +kernel, by decide +kernel⟩
theorem sc_law : FnScope ["_law_script", "_law_many_here", "_law_game_here", "_law_goal_here", "_law_handed", "_law_heard", "_law_found", "_law_k"] ["_law_script"] (defScope s_law) := ⟨rfl, rfl, rfl, by decide +kernel, rfl, by decide +kernel, by decide +kernel⟩
section
variable {P : Program} {w : World} {K : PySem.W.Frag} {mg : Str → Option Value} {base : Heap}
def WaysOk (n : Int) (ws : List Int) : Prop := ws.Pairwise (· < ·) ∧ (∀ x ∈ ws, 0 ≤ x ∧ x < n) ∧ ws.length ≤ 40
def GOk (G : List Row) : Prop := G.length ≤ 160 ∧ ∀ row ∈ G, WaysOk G.length row.2.2
theorem GOk.wok {G : List Row} (h : GOk G) : WOkG G := fun row hr => ⟨(h.2 row hr).1, (h.2 row hr).2.1⟩
def spWhole : Sp := fun vs H Q _ => ∃ z : Int, vs = [.int z] ∧ Q (.bl true) H
theorem ok_is_whole (F : DefAt K mg "is_whole" s_is_whole ["value"]) (T : Txt mg) : Dn P w K mg base "is_whole" 1 ["value"] spWhole := by
  have sc := sc_is_whole
  refine F.ok sc (fun vs H Q E h => ?_) (fun f cdv A outer s H vs Q E hr h => ?_)
  · obtain ⟨z, rfl, _⟩ := h; rfl
  obtain ⟨z, rfl, q⟩ := h
  refine ⟨_, (pss_one (ps_ret (pe_and (pe_callB (clIsi (K := K) rfl (T := "int")) rfl T.b_isinstance PyProof.Rows.boot_isinstance (pa_cons (pv 0) (pa_cons (pe_bltn (v := .ty "int") rfl T.b_int PyProof.Rows.boot_int rfl) pa_nil))) (pe_one (pe_not (pe_callB (clIsi (K := K) rfl (T := "bool")) rfl T.b_isinstance PyProof.Rows.boot_isinstance (pa_cons (pv 0) (pa_cons (pe_bltn (v := .ty "bool") rfl T.b_bool PyProof.Rows.boot_bool rfl) pa_nil)))))))), ?_⟩
  refine ⟨_, rfl, _, "int", _, rfl, rfl, isi_same _, true, rfl, ?_⟩
  refine iteT ?_
  exact ⟨_, rfl, _, "int", _, rfl, rfl, isi_int_bool, false, rfl, q⟩
def spPlace : Sp := fun vs H Q _ => ∃ z n : Int, vs = [.int z, .int n] ∧ Q (.bl (decide (0 ≤ z ∧ z < n))) H
theorem ok_is_place (F : DefAt K mg "is_place" s_is_place ["value", "count"]) (T : Txt mg) (D_is_whole : Dn P w K mg base "is_whole" 1 ["value"] spWhole) : Dn P w K mg base "is_place" 2 ["value", "count"] spPlace := by
  have sc := sc_is_place
  refine F.ok sc (fun vs H Q E h => ?_) (fun f cdv A outer s H vs Q E hr h => ?_)
  · obtain ⟨_, _, rfl, _⟩ := h; rfl
  obtain ⟨z, n, rfl, q⟩ := h
  refine ⟨_, (pss_one (ps_ret (pe_and (pe_dn D_is_whole hr (pa_cons (pv 0) pa_nil)) (pe_one (pe_chain op_le op_lt pe_int (pv 0) (pv 1)))))), ?_⟩
  refine ⟨_, rfl, z, rfl, true, rfl, ?_⟩
  refine iteT ?_
  refine ⟨_, rfl, _, _, rfl, rfl, decide (0 ≤ z), rfl, ?_⟩
  refine ite2 (fun c => ?_) (fun c => ?_)
  · have h0 : 0 ≤ z := of_decide_eq_true c
    refine ⟨_, rfl, _, _, rfl, rfl, ?_⟩
    show Q (V.bl (decide (z < n))) H
    have e : decide (z < n) = decide (0 ≤ z ∧ z < n) := by
      by_cases h : z < n
      · rw [decide_eq_true h, decide_eq_true ⟨h0, h⟩]
      · rw [decide_eq_false h, decide_eq_false fun k => h k.2]
    rw [e]; exact q
  · have e : decide (0 ≤ z ∧ z < n) = false := decide_eq_false fun k => c (decide_eq_true k.1)
    rw [e] at q; exact q
def spIn : Sp := fun vs H Q _ => Ex2 fun (v : V) (G : List Row) => And4 (vs = [v]) (rGame H G v) (GOk G) (∀ (r : Addr) (as : List Addr) (H' : Hp), Same H H' → H r = none → (∀ a ∈ as, H a = none) → Cells H' r as (wi G G.length) → Q (.ref r) H')
theorem nodup_of_lt {ws : List Int} (h : ws.Pairwise (· < ·)) : ws.Nodup := h.imp fun h => by omega
theorem col_len (G : List Row) (i p : Nat) : (col G i p).length ≤ i := by
  unfold col
  rw [List.length_map]
  exact Nat.le_trans (List.length_filter_le _ _) (by simp)
theorem ok_in (F : DefAt K mg "ways_in" s_ways_in ["game"]) (T : Txt mg) : Dn P w K mg base "ways_in" 1 ["game"] spIn := by
  have sc := sc_ways_in
  refine F.ok sc (fun vs H Q E h => ?_) (fun f cdv A outer s H vs Q E hr h => ?_)
  · obtain ⟨v, G, rfl, _⟩ := h; rfl
  obtain ⟨v, G, rfl, hG, hok, q⟩ := h
  obtain ⟨g0, gv, rfl, hg0, hgl, hrow⟩ := game_parts hG
  have hG160 := hok.1
  refine ⟨_, (pss_cons (ps_lc (i := 1) (defScope s_ways_in) ["game", "entries", "place", "row", "way"] ["row"] 1 [] sc.nd rfl rfl (pi_list (pv 0)) (fun _ _ _ _ _ _ => (ptg_name (show List.Nodup (["row"] : List Str) by decide +kernel) rfl rfl)) (fun _ _ _ _ _ _ => pts_nil) (fun _ _ _ _ _ _ => (pe_lst pa_nil)))
      (pss_cons (ps_for PassesOwn.never rfl (pi_enum (K := K) rfl rfl T.b_enumerate (pa_cons (pv 0) pa_nil)) (pg_tup rfl (pgs_cons (pg_name (i := 2) sc.nd rfl (Or.inl rfl)) (pgs_cons (pg_name (i := 3) sc.nd rfl (Or.inl rfl)) pgs_nil)))
      (pss_one (ps_for PassesOwn.never rfl (pi_list (pe_ix (ixT (K := K) rfl) (pv 3) pe_int (fun _ _ => rfl))) (pg_name (i := 4) sc.nd rfl (Or.inl rfl))
      (pss_one (ps_expr (pe_bm PySem.F.plainAttrs_list PySem.F.slot_list_append PySem.F.type_list_append mt_append (pe_ix (ixL (K := K) rfl) (pv 1) (pv 4) (fun _ _ => rfl)) (pa_cons (pv 2) pa_nil)))))))
      (pss_one (ps_ret (pv 1))))), ?_⟩
  refine ⟨_, rfl, g0, rfl, ⟨_, SqL.of hg0⟩, comp_listD (K := K) (a := g0) (xs := gv) (fun i ys H2 => Same H H2 ∧ ∃ as : List Addr, ys = as.map V.ref ∧ as.length = i ∧ as.Nodup ∧ ∀ a ∈ as, H a = none ∧ H2 a = some (.lst [])) ⟨Same.refl _, [], rfl, rfl, List.nodup_nil, fun _ z => by cases z⟩ (small (m := 1000) (by omega)) (fun i ys H2 hi h => ?_) (fun i x ys H2 hi h => ?_) (fun ys H2 h r hr => ?_)⟩
  · obtain ⟨s2, as, rfl, e, _⟩ := h
    exact ⟨SqL.of (s2 _ _ hg0), by simp; omega⟩
  · obtain ⟨s2, as, rfl, e, nd, ha⟩ := h
    refine comp_yes ?_
    refine ⟨Nat.zero_le _, fun p hp => ?_⟩
    have hpn : p ∉ as := fun z => by have := (ha p z).2; rw [hp] at this; cases this
    refine ⟨s2.trans (same_upd hp _), as ++ [p], by simp, by simp [e], ?_, fun a hm => ?_⟩
    · rw [List.nodup_append]
      exact ⟨nd, by simp, fun a h1 b h2 => by rw [List.mem_singleton.mp h2]; exact fun z => hpn (z ▸ h1)⟩
    · rcases List.mem_append.mp hm with h | h
      · exact ⟨(ha a h).1, same_upd hp _ _ _ (ha a h).2⟩
      · rw [List.mem_singleton.mp h]; exact ⟨s2.free hp, upd_same⟩
  obtain ⟨s2, as, rfl, e, nd, ha⟩ := h
  have hr0 : H r = none := s2.free hr
  have hrn : r ∉ as := fun z => by have := (ha r z).2; rw [hr] at this; cases this
  have c0 : Cells (upd H2 r (.lst (as.map V.ref))) r as (wi G 0) := by
    refine ⟨upd_same, nd, hrn, by rw [wi_len, e, hgl], fun i a h => ⟨[], ?_, same_upd hr _ _ _ (ha a (List.mem_of_getElem? h)).2⟩⟩
    have := (List.getElem?_eq_some_iff.mp h).1
    rw [wi_zero, List.getElem?_replicate, if_pos (by omega)]
  have hfree : ∀ a ∈ as, H a = none := fun a h => (ha a h).1
  refine ⟨_, rfl, g0, rfl, ⟨_, SqL.of (s2.trans (same_upd hr _) _ _ hg0)⟩, for_enum (K := K) (a := g0) (xs := gv) (fun i σ H3 => ∃ y1 y2 y3 : Option V, σ = [some (.ref g0), some (.ref r), y1, y2, y3] ∧ Same H H3 ∧ Cells H3 r as (wi G i))
    ⟨_, _, _, rfl, s2.trans (same_upd hr _), c0⟩ (fun i σ H3 _ h => ?_) (fun i x σ H3 Tt hi h hT => ?_) (fun σ H3 h => ?_)⟩
  · obtain ⟨_, _, _, _, s3, _⟩ := h
    exact SqL.of (s3 _ _ hg0)
  · obtain ⟨y1, y2, y3, rfl, s3, c3⟩ := h
    have hil : i < G.length := by have := (List.getElem?_eq_some_iff.mp hi).1; omega
    obtain ⟨row, hrw⟩ : ∃ row, G[i]? = some row := ⟨G[i], by simp⟩
    obtain ⟨t, wa, p1, p2, p3⟩ := hrow i row hrw
    rw [hi] at p1; cases p1
    have hw := hok.2 row (List.mem_of_getElem? hrw)
    have ew : waysOf G i = row.2.2 := waysOf_at hrw
    have sT := same_upd hT (.tup [.int (i : Nat), .ref t])
    refine ⟨Tt, _, rfl, SqT.of upd_same, rfl, _, _, rfl, _, _, rfl, rfl, ?_⟩
    refine ⟨_, rfl, t, _, _, _, rfl, rfl, SqT.of ((s3.trans sT) _ _ p2), atI_nat (j := 2) rfl, wa, rfl, ⟨_, SqL.of ((s3.trans sT) _ _ p3)⟩, for_list (K := K) (a := wa) (xs := row.2.2.map V.int) (fun j σ H4 => ∃ y3 : Option V, σ = [some (.ref g0), some (.ref r), some (.int (i : Nat)), some (.ref t), y3] ∧ Same H H4 ∧ Cells H4 r as (wi2 G i j))
      ⟨_, rfl, s3.trans sT, by rw [wi2_zero]; exact c3.up sT⟩ (fun j σ H4 _ h => ?_) (fun j x σ H4 hj h => ?_) (fun σ H4 h => ?_)⟩
    · obtain ⟨_, _, s4, _⟩ := h
      exact SqL.of (s4 _ _ p3)
    · obtain ⟨y, rfl, s4, c4⟩ := h
      obtain ⟨z, hz, rfl⟩ := int_of_at hj
      obtain ⟨b1, b2⟩ := hw.2.1 z (List.mem_of_getElem? hz)
      rw [← ew] at hz
      obtain ⟨a, L, k1, k2, k3, k4⟩ := c4.at b1 (by rw [wi2_len]; exact b2)
      have e1 := wi2_at hz (by rw [ew]; exact nodup_of_lt hw.1) b1 b2
      rw [e1] at k2; cases k2
      have hcl := col_len G i z.toNat
      refine (rd_ixv rfl rfl (SqL.of c4.hd) k3 ⟨.inl ⟨rfl, _, SqL.of k4⟩, _, rfl, a, _, _, rfl, rfl, k4, smlt (m := 1000) (by rw [List.length_map]; omega), ?_⟩)
      have c5 := c4.put k1 (col G i z.toNat ++ [(i : Int)])
      rw [wi2_set hz b1 b2, List.map_append] at c5
      exact ⟨_, rfl, s4.put (hfree a (List.mem_of_getElem? k1)) _, c5⟩
    · obtain ⟨y, rfl, s4, c4⟩ := h
      rw [List.length_map, ← ew, wi2_all] at c4
      exact ⟨_, _, _, rfl, s4, c4⟩
  · obtain ⟨y1, y2, y3, rfl, s3, c3⟩ := h
    rw [hgl] at c3
    exact ⟨_, rfl, q r as H3 s3 hr0 hfree c3⟩
def spMarks : Sp := fun vs H Q _ => Ex3 fun (n : Nat) (a : Addr) (ps : List Int) => And4 (vs = [.int n, .ref a]) (n ≤ 1000) (H a = some (.lst (ps.map V.int))) (∀ (p : Addr) (H' : Hp), Same H H' → H p = none → H' p = some (.lst (bm n fun x => decide (x ∈ ps))) → Q (.ref p) H')
theorem ok_place_marks (F : DefAt K mg "place_marks" s_place_marks ["count", "places"]) (T : Txt mg) (D_is_place : Dn P w K mg base "is_place" 2 ["value", "count"] spPlace) : Dn P w K mg base "place_marks" 3 ["count", "places"] spMarks := by
  have sc := sc_place_marks
  refine F.ok sc (fun vs H Q E h => ?_) (fun f cdv A outer s H vs Q E hr h => ?_)
  · obtain ⟨_, _, _, rfl, _⟩ := h; rfl
  obtain ⟨n, a, ps, rfl, hn, ha, q⟩ := h
  refine ⟨_, (pss_cons (ps_set (i := 2) sc.nd rfl (Or.inl rfl) (pe_op op_rep (pe_lst (pa_cons pe_bl pa_nil)) (pv 0)))
      (pss_cons (ps_for PassesOwn.never rfl (pi_list (pv 1)) (pg_name (i := 3) sc.nd rfl (Or.inl rfl))
      (pss_one (ps_if (pt_val (pe_dn D_is_place hr (pa_cons (pv 3) (pa_cons (pv 0) pa_nil))))
      (pss_one (ps_asg pe_bl (pg_sub (pv 2) (pv 3) set_list)))
      pss_nil)))
      (pss_one (ps_ret (pv 2))))), ?_⟩
  refine ⟨(by show 1 ≤ sizeLine; decide), fun n1 hn1 => ?_⟩
  have s1 := same_upd hn1 (.lst [V.bl false])
  refine ⟨_, rfl, n1, _, _, rfl, rfl, upd_same, by omega, by omega, small (m := 1000) (by simp; omega), fun m hm => ?_⟩
  have s2 := s1.trans (same_upd hm (.lst (List.replicate ((n : Nat) : Int).toNat [V.bl false]).flatten))
  have hm0 : H m = none := s1.free hm
  have hm1 : upd (upd H n1 (.lst [V.bl false])) m (.lst (List.replicate ((n : Nat) : Int).toNat [V.bl false]).flatten) m = some (.lst (bm n fun x => decide (x ∈ ps.take 0))) := by
    rw [upd_same, Int.toNat_natCast, bm_rep]; simp
  generalize upd (upd H n1 (.lst [V.bl false])) m (.lst (List.replicate ((n : Nat) : Int).toNat [V.bl false]).flatten) = H1 at s2 hm1 ⊢
  refine ⟨_, rfl, a, rfl, ⟨_, SqL.of (s2 _ _ ha)⟩, for_list (K := K) (a := a) (xs := ps.map V.int) (fun i σ H2 => ∃ y : Option V, σ = [some (.int n), some (.ref a), some (.ref m), y] ∧ Same H H2 ∧ H2 m = some (.lst (bm n fun x => decide (x ∈ ps.take i)))) ⟨_, rfl, s2, hm1⟩ (fun i σ H2 _ h => ?_) (fun i x σ H2 hi h => ?_) (fun σ H2 h => ?_)⟩
  · obtain ⟨_, _, s3, _⟩ := h
    exact SqL.of (s3 _ _ ha)
  · obtain ⟨y, rfl, s3, h3⟩ := h
    obtain ⟨z, hz, rfl⟩ := int_of_at hi
    refine ⟨_, rfl, _, rfl, z, _, rfl, _, rfl, ?_⟩
    refine ite2 (fun c => ?_) (fun c => ?_)
    · obtain ⟨z0, z1⟩ := of_decide_eq_true c
      refine ⟨_, rfl, _, rfl, m, _, _, z.toNat, rfl, rfl, h3, ?_, ?_⟩
      · unfold ixN; rw [bm_len, if_pos z0, if_pos z1]
      · refine ⟨_, rfl, s3.put hm0 _, ?_⟩
        rw [upd_same, bm_set z0 z1]
        congr 2
        exact bm_congr fun p _ _ => by rw [Bool.eq_iff_iff]; simp [mem_take_snoc hz]
    · refine ⟨_, rfl, s3, ?_⟩
      rw [h3]
      congr 2
      refine bm_congr fun p p0 p1 => ?_
      have hne : p ≠ z := fun e => c (decide_eq_true (by rw [← e]; exact ⟨p0, p1⟩))
      rw [Bool.eq_iff_iff]; simp [mem_take_snoc hz, hne]
  · obtain ⟨y, rfl, s3, h3⟩ := h
    rw [List.length_map, List.take_length] at h3
    exact ⟨_, rfl, q m H2 s3 hm0 h3⟩
def PartIs (H : Hp) (qv : V) (ins : Int → Bool) : Prop := (qv = .non ∧ ins = fun _ => true) ∨ ∃ (a : Addr) (ps : List Int), qv = .ref a ∧ H a = some (.lst (ps.map V.int)) ∧ ins = fun x => decide (x ∈ ps)
theorem PartIs.up {H H' : Hp} {qv : V} {ins : Int → Bool} (h : PartIs H qv ins) (s : Same H H') : PartIs H' qv ins := by
  rcases h with h | ⟨a, ps, e, h1, h2⟩
  · exact .inl h
  · exact .inr ⟨a, ps, e, s _ _ h1, h2⟩
def spPart : Sp := fun vs H Q _ => Ex4 fun (v : V) (qv : V) (G : List Row) (ins : Int → Bool) => And5 (vs = [v, qv]) (rGame H G v) (G.length ≤ 160) (PartIs H qv ins) (∀ (p : Addr) (H' : Hp), Same H H' → H p = none → H' p = some (.lst (bm G.length ins)) → Q (.ref p) H')
theorem ok_part_marks (F : DefAt K mg "part_marks" s_part_marks ["game", "part"]) (T : Txt mg) (D_place_marks : Dn P w K mg base "place_marks" 3 ["count", "places"] spMarks) : Dn P w K mg base "part_marks" 4 ["game", "part"] spPart := by
  have sc := sc_part_marks
  refine F.ok sc (fun vs H Q E h => ?_) (fun f cdv A outer s H vs Q E hr h => ?_)
  · obtain ⟨_, _, _, _, rfl, _⟩ := h; rfl
  obtain ⟨v, qv, G, ins, rfl, hG, h160, hp, q⟩ := h
  obtain ⟨g0, gv, rfl, hg0, hgl, _⟩ := game_parts hG
  refine ⟨_, (pss_cons (ps_if (pt_cmp (pc_isN (pv 1)))
      (pss_one (ps_ret (pe_op op_rep (pe_lst (pa_cons pe_bl pa_nil)) (pe_callB (clLen (K := K) rfl) rfl T.b_len PySem.boot_len (pa_cons (pv 0) pa_nil)))))
      pss_nil)
      (pss_one (ps_ret (pe_dn D_place_marks hr (pa_cons (pe_callB (clLen (K := K) rfl) rfl T.b_len PySem.boot_len (pa_cons (pv 0) pa_nil)) (pa_cons (pv 1) pa_nil)))))), ?_⟩
  rcases hp with ⟨rfl, rfl⟩ | ⟨a, ps, rfl, ha, rfl⟩
  · refine ⟨_, rfl, _, rfl, ?_⟩
    refine iteT ?_
    refine ⟨(by show 1 ≤ sizeLine; decide), fun n1 hn1 => ?_⟩
    have s1 := same_upd hn1 (.lst [V.bl true])
    refine ⟨_, rfl, g0, _, rfl, .inl (SqL.of (s1 _ _ hg0)), n1, _, _, rfl, rfl, upd_same, by omega, by omega, small (m := 1000) (by simp; omega), fun m hm => ?_⟩
    refine q m _ (s1.trans (same_upd hm _)) (s1.free hm) ?_
    rw [upd_same, Int.toNat_natCast, bm_rep, hgl]
  · refine ⟨_, rfl, _, rfl, ?_⟩
    refine iteF ?_
    exact ⟨_, rfl, g0, _, rfl, .inl (SqL.of hg0), _, rfl, gv.length, a, ps, rfl, by omega, ha, fun p H' s1 hp h1 => q p H' s1 hp (by rw [← hgl]; exact h1)⟩
def spLack : Sp := fun vs H Q _ => Ex7 fun (v : V) (G : List Row) (hand : Int) (ia : Addr) (wa : Addr) (ins : Int → Bool) (want : Int → Bool) => And6 (vs = [v, .int hand, .ref ia, .ref wa]) (rGame H G v) (GOk G) (H ia = some (.lst (bm G.length ins))) (H wa = some (.lst (bm G.length want))) (∀ (p : Addr) (H' : Hp), Same H H' → H p = none → H' p = some (.lst ((im G.length fun x => ((lack G hand ins want x : Nat) : Int)).map V.int)) → Q (.ref p) H')
theorem ok_lacking (F : DefAt K mg "lacking_ways" s_lacking_ways ["game", "hand", "inside", "wanted"]) (T : Txt mg) : Dn P w K mg base "lacking_ways" 1 ["game", "hand", "inside", "wanted"] spLack := by
  have sc := sc_lacking_ways
  refine F.ok sc (fun vs H Q E h => ?_) (fun f cdv A outer s H vs Q E hr h => ?_)
  · obtain ⟨_, _, _, _, _, _, _, rfl, _⟩ := h; rfl
  obtain ⟨v, G, hand, ia, wa, ins, want, rfl, hG, hok, hi0, hw0, q⟩ := h
  obtain ⟨g0, gv, rfl, hg0, hgl, hrow⟩ := game_parts hG
  have h160 := hok.1
  refine ⟨_, (pss_cons (ps_set (i := 4) sc.nd rfl (Or.inl rfl) (pe_lst pa_nil))
      (pss_cons (ps_for PassesOwn.never rfl (pi_enum (K := K) rfl rfl T.b_enumerate (pa_cons (pv 0) pa_nil)) (pg_tup rfl (pgs_cons (pg_name (i := 5) sc.nd rfl (Or.inl rfl)) (pgs_cons (pg_name (i := 6) sc.nd rfl (Or.inl rfl)) pgs_nil)))
      (pss_one (ps_if (PW.pt (pw_or (pt_not (pt_val (pe_ix (ixL (K := K) rfl) (pv 2) (pv 5) (fun _ _ => rfl)))) (pw_or1 (pt_val (pe_ix (ixL (K := K) rfl) (pv 3) (pv 5) (fun _ _ => rfl))))))
      (pss_one (ps_expr (pe_bm PySem.F.plainAttrs_list PySem.F.slot_list_append PySem.F.type_list_append mt_append (pv 4) (pa_cons pe_int pa_nil))))
      (pss_one (ps_if (pt_cmpR op_eq (pe_ix (ixT (K := K) rfl) (pv 6) pe_int (fun _ _ => rfl)) (pv 1) (nomark _))
      (pss_one (ps_expr (pe_bm PySem.F.plainAttrs_list PySem.F.slot_list_append PySem.F.type_list_append mt_append (pv 4) (pa_cons pe_int pa_nil))))
      (pss_one (ps_expr (pe_bm PySem.F.plainAttrs_list PySem.F.slot_list_append PySem.F.type_list_append mt_append (pv 4) (pa_cons (pe_callB (clLen (K := K) rfl) rfl T.b_len PySem.boot_len (pa_cons (pe_lc (defScope s_lacking_ways) ["game", "hand", "inside", "wanted", "lacking", "place", "row"] ["way", "inside"] 1 [2] (pi_list (pe_ix (ixT (K := K) rfl) (pv 6) pe_int (fun _ _ => rfl))) (fun _ _ _ _ _ _ => (ptg_name (show List.Nodup (["way", "inside"] : List Str) by decide +kernel) rfl rfl)) (fun _ _ _ _ _ _ => (pts_one (pt_val (pe_ix (ixL (K := K) rfl) (pv 1) (pv 0) (fun _ _ => rfl))))) (fun _ _ _ _ _ _ => (pv 0))) pa_nil)) pa_nil)))))))))
      (pss_one (ps_ret (pv 4))))), ?_⟩
  refine ⟨Nat.zero_le _, fun la hla => ?_⟩
  have s0 := same_upd hla (.lst [])
  refine ⟨_, rfl, g0, rfl, ⟨_, SqL.of (s0 _ _ hg0)⟩, for_enum (K := K) (a := g0) (xs := gv) (fun i σ H2 => ∃ y1 y2 : Option V, σ = [some (.ref g0), some (.int hand), some (.ref ia), some (.ref wa), some (.ref la), y1, y2] ∧ Same H H2 ∧ H2 la = some (.lst ((im i fun x => ((lack G hand ins want x : Nat) : Int)).map V.int)))
    ⟨_, _, rfl, s0, upd_same⟩ (fun i σ H2 _ h => ?_) (fun i x σ H2 Tt hi h hT => ?_) (fun σ H2 h => ?_)⟩
  · obtain ⟨_, _, _, s2, _⟩ := h
    exact SqL.of (s2 _ _ hg0)
  · obtain ⟨y1, y2, rfl, s2, h2⟩ := h
    have hil : i < G.length := by have := (List.getElem?_eq_some_iff.mp hi).1; omega
    obtain ⟨row, hrw⟩ : ∃ row, G[i]? = some row := ⟨G[i], by simp⟩
    obtain ⟨t, wy0, p1, p2, p3⟩ := hrow i row hrw
    rw [hi] at p1; cases p1
    obtain ⟨w1, w2, w3⟩ := hok.2 row (List.mem_of_getElem? hrw)
    have hrw' : G[((i : Nat) : Int).toNat]? = some row := by rw [Int.toNat_natCast]; exact hrw
    have ehd := hd_at hrw'
    have ewy := wy_at hrw'
    have sT := same_upd hT (.tup [.int (i : Nat), .ref t])
    refine ⟨Tt, _, rfl, SqT.of upd_same, rfl, _, _, rfl, _, _, rfl, rfl, ?_⟩
    have s3 := s2.trans sT
    have h3 := sT _ _ h2
    generalize upd H2 Tt (.tup [.int (i : Nat), .ref t]) = H3 at sT s3 h3 ⊢
    have hii := s3 _ _ hi0
    have hww := s3 _ _ hw0
    have add : ∀ (z : Int) (H4 : Hp), Same H H4 → H4 la = some (.lst ((im i fun x => ((lack G hand ins want x : Nat) : Int)).map V.int)) → z = ((lack G hand ins want ((i : Nat) : Int) : Nat) : Int) → Same H (upd H4 la (.lst ((im i fun x => ((lack G hand ins want x : Nat) : Int)).map V.int ++ [V.int z]))) ∧ upd H4 la (.lst ((im i fun x => ((lack G hand ins want x : Nat) : Int)).map V.int ++ [V.int z])) la = some (.lst ((im (i + 1) fun x => ((lack G hand ins want x : Nat) : Int)).map V.int)) := fun z H4 s4 h4 e => ⟨s4.put hla _, by rw [upd_same, im_snoc, List.map_append, e]; rfl⟩
    refine (rd_ixv rfl rfl (SqL.of hii) (atI_nat (j := i) (by have := bm_at (f := ins) (n := G.length) (z := ((i : Nat) : Int)) (by omega) (by omega); rw [Int.toNat_natCast] at this; exact this)) ⟨_, rfl, ?_⟩)
    refine ite2 (fun c => ?_) (fun c => ?_)
    · have hins : ins ((i : Nat) : Int) = false := by simpa using c
      refine ⟨_, rfl, .inl ⟨rfl, _, SqL.of h3⟩, la, _, _, rfl, rfl, h3, smlt (m := 1000) (by rw [List.length_map, im_len]; omega), ?_⟩
      obtain ⟨k1, k2⟩ := add 0 H3 s3 h3 (by unfold lack; rw [if_pos (.inl hins)]; rfl)
      exact ⟨_, _, rfl, k1, k2⟩
    have hins : ins ((i : Nat) : Int) = true := by simpa using c
    refine (rd_ixv rfl rfl (SqL.of hww) (atI_nat (j := i) (by have := bm_at (f := want) (n := G.length) (z := ((i : Nat) : Int)) (by omega) (by omega); rw [Int.toNat_natCast] at this; exact this)) ⟨_, rfl, ?_⟩)
    refine ite2 (fun c2 => ?_) (fun c2 => ?_)
    · refine ⟨_, rfl, .inl ⟨rfl, _, SqL.of h3⟩, la, _, _, rfl, rfl, h3, smlt (m := 1000) (by rw [List.length_map, im_len]; omega), ?_⟩
      obtain ⟨k1, k2⟩ := add 0 H3 s3 h3 (by unfold lack; rw [if_pos (.inr c2)]; rfl)
      exact ⟨_, _, rfl, k1, k2⟩
    have hwt : want ((i : Nat) : Int) = false := by simpa using c2
    have hno : ¬ (ins ((i : Nat) : Int) = false ∨ want ((i : Nat) : Int) = true) := by rw [hins, hwt]; simp
    refine (rd_tixc rfl (SqT.of (s3 _ _ p2)) (atI_nat (j := 0) rfl) ⟨_, rfl, rfl, _, rfl, ?_⟩)
    refine ite2 (fun c3 => ?_) (fun c3 => ?_)
    · have hh : row.1 = hand := by have := of_decide_eq_true c3; injection this
      refine ⟨_, rfl, .inl ⟨rfl, _, SqL.of h3⟩, la, _, _, rfl, rfl, h3, smlt (m := 1000) (by rw [List.length_map, im_len]; omega), ?_⟩
      obtain ⟨k1, k2⟩ := add 1 H3 s3 h3 (by unfold lack; rw [if_neg hno, if_pos (by rw [ehd]; exact hh)]; rfl)
      exact ⟨_, _, rfl, k1, k2⟩
    have hh : ¬ row.1 = hand := fun z => c3 (decide_eq_true (by rw [z]))
    refine ⟨_, rfl, .inl ⟨rfl, _, SqL.of h3⟩, rd_tixc rfl (SqT.of (s3 _ _ p2)) (atI_nat (j := 2) rfl) ⟨wy0, rfl, ⟨_, SqL.of (s3 _ _ p3)⟩, comp_listD (K := K) (a := wy0) (xs := row.2.2.map V.int) (fun k ys H4 => H4 = H3 ∧ ys = ((row.2.2.take k).filter ins).map V.int) ⟨rfl, rfl⟩ (small (m := 1000) (by rw [List.length_map]; omega)) (fun k ys H4 hk h => ?_) (fun k x ys H4 hk h => ?_) (fun ys H4 h p hp => ?_)⟩⟩
    · obtain ⟨rfl, rfl⟩ := h
      exact ⟨SqL.of (s3 _ _ p3), by rw [List.length_map]; exact Nat.le_trans (List.length_filter_le _ _) (by simp; omega)⟩
    · obtain ⟨rfl, rfl⟩ := h
      obtain ⟨z, hz, rfl⟩ := int_of_at hk
      obtain ⟨z0, z1⟩ := w2 z (List.mem_of_getElem? hz)
      refine (rd_ixv rfl rfl (SqL.of hii) (atI_i z0 (bm_at z0 z1)) ⟨_, rfl, ?_⟩)
      refine ite2 (fun c4 => ?_) (fun c4 => ?_)
      · refine ⟨_, rfl, rfl, ?_⟩
        rw [List.take_add_one, hz, List.filter_append, List.map_append]
        show _ = _ ++ (List.filter ins [z]).map V.int
        rw [List.filter_cons_of_pos c4]; rfl
      · refine ⟨rfl, ?_⟩
        rw [List.take_add_one, hz, List.filter_append, List.map_append]
        show _ = _ ++ (List.filter ins [z]).map V.int
        rw [List.filter_cons_of_neg c4]; simp
    · obtain ⟨rfl, rfl⟩ := h
      rw [List.length_map, List.take_length]
      have s5 := same_upd hp (.lst ((row.2.2.filter ins).map V.int))
      have h5 := s5 _ _ h3
      refine ⟨p, _, rfl, .inl (SqL.of upd_same), la, _, _, rfl, rfl, h5, smlt (m := 1000) (by rw [List.length_map, im_len]; omega), ?_⟩
      obtain ⟨k1, k2⟩ := add (((row.2.2.filter ins).map V.int).length : Nat) _ (s3.trans s5) h5 (by unfold lack; rw [if_neg hno, if_neg (by rw [ehd]; exact hh), ewy, List.length_map])
      exact ⟨_, _, rfl, k1, k2⟩
  · obtain ⟨y1, y2, rfl, s2, h2⟩ := h
    rw [hgl] at h2
    exact ⟨_, rfl, q la H2 s2 hla h2⟩
theorem cells_del {H : Hp} {r k : Addr} {as : List Addr} {X : List (List Int)} (c : Cells H r as X) (hr : r ≠ k) (ha : ∀ a ∈ as, a ≠ k) : Cells (L2.del H k) r as X := ⟨by rw [del_at hr]; exact c.hd, c.nd, c.rn, c.len, fun i a h => by
  obtain ⟨l, h1, h2⟩ := c.cell i a h
  exact ⟨l, h1, by rw [del_at (ha a (List.mem_of_getElem? h))]; exact h2⟩⟩
theorem col_mem {G : List Row} {z : Int} (h0 : 0 ≤ z) {s : Int} : s ∈ col G G.length z.toNat ↔ (0 ≤ s ∧ s < G.length) ∧ z ∈ wy G s := by
  unfold col
  rw [List.mem_map]
  have e : ((z.toNat : Nat) : Int) = z := by omega
  constructor
  · rintro ⟨k, hk, rfl⟩
    obtain ⟨h1, h2⟩ := List.mem_filter.mp hk
    have := List.mem_range.mp h1
    unfold inW at h2
    rw [e] at h2
    have h3 := of_decide_eq_true h2
    refine ⟨by omega, ?_⟩
    unfold waysOf at h3
    unfold wy
    rw [Int.toNat_natCast]; exact h3
  · rintro ⟨⟨h1, h2⟩, h3⟩
    refine ⟨s.toNat, List.mem_filter.mpr ⟨List.mem_range.mpr (by omega), ?_⟩, by omega⟩
    unfold inW
    rw [e]
    refine decide_eq_true ?_
    unfold waysOf
    unfold wy at h3
    exact h3
theorem col_lt (G : List Row) (i p : Nat) : (col G i p).Pairwise (· < ·) := by
  unfold col
  rw [List.pairwise_map]
  exact (List.pairwise_lt_range.filter _).imp fun h => by omega
theorem wi_at {G : List Row} {z : Int} (h0 : 0 ≤ z) (h1 : z < G.length) : (wi G G.length)[z.toNat]? = some (col G G.length z.toNat) := by
  unfold wi
  rw [List.getElem?_map, List.getElem?_range (by omega)]; rfl
/-- who has joined: the count has come to what was lacking -/
def Joined (G : List Row) (hand : Int) (ins want : Int → Bool) (c0 : Int → Nat) (c : Int → Nat) (J : List Int) : Prop := J.Nodup ∧ ∀ p : Int, p ∈ J ↔ (0 ≤ p ∧ p < G.length) ∧ 1 ≤ lack G hand ins want p ∧ c0 p < lack G hand ins want p ∧ lack G hand ins want p ≤ c p
def cnt2 (G : List Row) (S : List Int) (E : List Int) (p : Int) : Nat := cnt G S p + if p ∈ E then 1 else 0
theorem Joined.step {G : List Row} {hand : Int} {ins want : Int → Bool} {c0 c c' : Int → Nat} {J : List Int} {s : Int} (h : Joined G hand ins want c0 c J) (hs : 0 ≤ s ∧ s < G.length) (h1 : c' s = c s + 1) (h2 : ∀ p, p ≠ s → c' p = c p) (h0 : c0 s ≤ c s) :
    (lack G hand ins want s = c s + 1 → Joined G hand ins want c0 c' (J ++ [s])) ∧ (lack G hand ins want s ≠ c s + 1 → Joined G hand ins want c0 c' J) := by
  obtain ⟨nd, hm⟩ := h
  constructor
  · intro e
    have hns : s ∉ J := fun z => by have := (hm s).mp z; omega
    refine ⟨?_, fun p => ?_⟩
    · rw [List.nodup_append]
      exact ⟨nd, by simp, fun a ha b hb => by rw [List.mem_singleton.mp hb]; exact fun z => hns (z ▸ ha)⟩
    · rw [List.mem_append, List.mem_singleton]
      by_cases c1 : p = s
      · subst c1
        constructor
        · intro _; exact ⟨hs, by omega, by omega, by omega⟩
        · intro _; exact .inr rfl
      · rw [h2 p c1, hm p]
        constructor
        · rintro (z | z)
          · exact z
          · exact absurd z c1
        · exact .inl
  · intro e
    refine ⟨nd, fun p => ?_⟩
    rw [hm p]
    by_cases c1 : p = s
    · subst c1
      rw [h1]
      constructor
      · rintro ⟨a, b, d, f⟩; exact ⟨a, b, d, by omega⟩
      · rintro ⟨a, b, d, f⟩; exact ⟨a, b, d, by omega⟩
    · rw [h2 p c1]
def spNext : Sp := fun vs H Q _ => Ex10 fun (la : Addr) (r : Addr) (ka : Addr) (as : List Addr) (G : List Row) (hand : Int) (ins : Int → Bool) (want : Int → Bool) (S0 : List Int) (L : List Int) => And11 (vs = [.ref la, .ref r, .ref ka]) (GOk G) (H la = some (.lst (L.map V.int))) (la ≠ ka) (Cells H r as (wi G G.length)) (r ≠ ka) ((∀ a ∈ as, a ≠ ka)) (H ka = some (.lst ((im G.length fun p => ((lack G hand ins want p : Nat) : Int) - ((cnt G S0 p : Nat) : Int)).map V.int))) (L.Nodup) ((∀ x ∈ L, x ∉ S0 ∧ 0 ≤ x ∧ x < G.length)) (∀ (p : Addr) (ns : List Int) (H' : Hp), Same (L2.del H ka) H' → H p = none → H' p = some (.lst (ns.map V.int)) → H' ka = some (.lst ((im G.length fun p => ((lack G hand ins want p : Nat) : Int) - ((cnt G (S0 ++ L) p : Nat) : Int)).map V.int)) → ns.Pairwise (· < ·) →
    (∀ p, p ∈ ns ↔ (0 ≤ p ∧ p < G.length) ∧ 1 ≤ lack G hand ins want p ∧ cnt G S0 p < lack G hand ins want p ∧ lack G hand ins want p ≤ cnt G (S0 ++ L) p) → Q (.ref p) H')
theorem ok_next (F : DefAt K mg "next_layer" s_next_layer ["layer", "entries", "lacking"]) (T : Txt mg) : Dn P w K mg base "next_layer" 1 ["layer", "entries", "lacking"] spNext := by
  have sc := sc_next_layer
  refine F.ok sc (fun vs H Q E h => ?_) (fun f cdv A outer s H vs Q E hr h => ?_)
  · obtain ⟨_, _, _, _, _, _, _, _, _, _, rfl, _⟩ := h; rfl
  obtain ⟨la, r, ka, as, G, hand, ins, want, S0, L, rfl, hok, hla, nla, hC, nr, nas, hka, hLn, hLs, q⟩ := h
  have h160 := hok.1
  have hL160 : L.length ≤ 160 := by
    have := nodup_sub L (rng G.length) hLn fun x hx => mem_rng.mpr (hLs x hx).2
    unfold rng at this
    simp at this
    omega
  refine ⟨_, (pss_cons (ps_set (i := 3) sc.nd rfl (Or.inl rfl) (pe_lst pa_nil))
      (pss_cons (ps_for PassesOwn.never rfl (pi_list (pv 0)) (pg_name (i := 4) sc.nd rfl (Or.inl rfl))
      (pss_one (ps_for PassesOwn.never rfl (pi_list (pe_ix (ixL (K := K) rfl) (pv 1) (pv 4) (fun _ _ => rfl))) (pg_name (i := 5) sc.nd rfl (Or.inl rfl))
      (pss_cons (ps_augS (pv 2) (pv 5) (get_list (K := K) rfl) pe_int ip_sub set_list)
      (pss_one (ps_if (pt_cmpR op_eq (pe_ix (ixL (K := K) rfl) (pv 2) (pv 5) (fun _ _ => rfl)) pe_int (nomark _))
      (pss_one (ps_expr (pe_bm PySem.F.plainAttrs_list PySem.F.slot_list_append PySem.F.type_list_append mt_append (pv 3) (pa_cons (pv 5) pa_nil))))
      pss_nil))))))
      (pss_one (ps_ret (pe_callB (call_sortedB (K := K) rfl) rfl T.b_sorted PyProof.Rows.boot_sorted (pa_cons (pv 3) pa_nil)))))), ?_⟩
  refine ⟨Nat.zero_le _, fun jo hjo => ?_⟩
  have njk : jo ≠ ka := fun z => by rw [z, hka] at hjo; cases hjo
  have kB : L2.del H ka ka = none := by unfold L2.del; rw [if_pos rfl]
  have jB : L2.del H ka jo = none := by rw [del_at njk]; exact hjo
  have cB := cells_del hC nr nas
  have lB : L2.del H ka la = some (.lst (L.map V.int)) := by rw [del_at nla]; exact hla
  have sB : Same (L2.del H ka) (upd H jo (.lst [])) := (del_same _ _).trans (same_upd hjo _)
  refine ⟨_, rfl, la, rfl, ⟨_, SqL.of (sB _ _ lB)⟩, for_list (K := K) (a := la) (xs := L.map V.int) (fun i σ H2 => Ex3 fun (J : List Int) (y1 : Option V) (y2 : Option V) => And5 (σ = [some (.ref la), some (.ref r), some (.ref ka), some (.ref jo), y1, y2]) (Same (L2.del H ka) H2) (H2 ka = some (.lst ((im G.length fun p => ((lack G hand ins want p : Nat) : Int) - ((cnt G (S0 ++ L.take i) p : Nat) : Int)).map V.int))) (H2 jo = some (.lst (J.map V.int))) (Joined G hand ins want (cnt G S0) (cnt G (S0 ++ L.take i)) J))
    ⟨[], _, _, rfl, sB, by rw [List.take_zero, List.append_nil, upd_ne (Ne.symm njk)]; exact hka, upd_same, List.nodup_nil, fun p => ⟨fun z => (by cases z), fun z => by rw [List.take_zero, List.append_nil] at z; omega⟩⟩ (fun i σ H2 _ h => ?_) (fun i x σ H2 hi h => ?_) (fun σ H2 h => ?_)⟩
  · obtain ⟨_, _, _, _, s2, _⟩ := h
    exact SqL.of (s2 _ _ lB)
  · obtain ⟨J, y1, y2, rfl, s2, hk2, hj2, hJ⟩ := h
    obtain ⟨z, hz, rfl⟩ := int_of_at hi
    obtain ⟨zS, z0, z1⟩ := hLs z (List.mem_of_getElem? hz)
    have c2 := cB.up s2
    obtain ⟨ea, El, e1, e2, e3, e4⟩ := c2.at z0 (by rw [wi_len]; exact z1)
    rw [wi_at z0 z1] at e2; cases e2
    have eB : L2.del H ka ea = some (.lst ((col G G.length z.toNat).map V.int)) := by
      obtain ⟨l, h1, h2⟩ := cB.cell _ ea e1
      rw [wi_at z0 z1] at h1; cases h1; exact h2
    have hcol := fun s => col_mem (G := G) (z := z) z0 (s := s)
    have hcl := col_len G G.length z.toNat
    have hcn := lt_nodup (col_lt G G.length z.toNat)
    generalize col G G.length z.toNat = El at *
    have hzt : z ∉ S0 ++ L.take i := fun hm => by
      rcases List.mem_append.mp hm with hm | hm
      · exact zS hm
      · obtain ⟨k, hk⟩ := List.getElem?_of_mem hm
        rw [List.getElem?_take] at hk
        split at hk
        · have := nodup_at2 hLn hk hz; omega
        · cases hk
    have hcs : ∀ p : Int, 0 ≤ p ∧ p < G.length → cnt G (S0 ++ L.take (i + 1)) p = cnt2 G (S0 ++ L.take i) El p := fun p hp => by
      rw [List.take_add_one, hz, ← List.append_assoc]
      show cnt G (S0 ++ L.take i ++ [z]) p = _
      rw [cnt_snoc hok.wok hzt p]
      unfold cnt2
      by_cases c : z ∈ wy G p
      · rw [if_pos c, if_pos ((hcol p).mpr ⟨hp, c⟩)]
      · rw [if_neg c, if_neg fun k => c ((hcol p).mp k).2]
    refine ⟨_, rfl, _, rfl, r, _, _, _, rfl, rfl, SqL.of c2.hd, e3, ea, rfl, ⟨_, SqL.of (s2 _ _ eB)⟩, for_list (K := K) (a := ea) (xs := El.map V.int) (fun j σ H3 => Ex2 fun (J : List Int) (y2 : Option V) => And5 (σ = [some (.ref la), some (.ref r), some (.ref ka), some (.ref jo), some (.int z), y2]) (Same (L2.del H ka) H3) (H3 ka = some (.lst ((im G.length fun p => ((lack G hand ins want p : Nat) : Int) - ((cnt2 G (S0 ++ L.take i) (El.take j) p : Nat) : Int)).map V.int))) (H3 jo = some (.lst (J.map V.int))) (Joined G hand ins want (cnt G S0) (cnt2 G (S0 ++ L.take i) (El.take j)) J))
      ⟨J, _, rfl, s2, by simpa [cnt2] using hk2, hj2, by simpa [cnt2, Joined] using hJ⟩ (fun j σ H3 _ h => ?_) (fun j x σ H3 hj h => ?_) (fun σ H3 h => ?_)⟩
    · obtain ⟨_, _, _, s3, _⟩ := h
      exact SqL.of (s3 _ _ eB)
    · obtain ⟨J, y2, rfl, s3, hk3, hj3, hJ⟩ := h
      obtain ⟨s, hs, rfl⟩ := int_of_at hj
      obtain ⟨⟨s0, s1⟩, sw⟩ := (hcol s).mp (List.mem_of_getElem? hs)
      have hjl := (List.getElem?_eq_some_iff.mp hs).1
      have hsn : s ∉ El.take j := fun hm => by
        obtain ⟨k, hk⟩ := List.getElem?_of_mem hm
        rw [List.getElem?_take] at hk
        split at hk
        · have := nodup_at2 hcn hk hs; omega
        · cases hk
      have c1 : cnt2 G (S0 ++ L.take i) (El.take (j + 1)) s = cnt2 G (S0 ++ L.take i) (El.take j) s + 1 := by
        unfold cnt2
        rw [if_neg hsn, if_pos ((mem_take_snoc hs).mpr (.inr rfl))]
      have c2' : ∀ p, p ≠ s → cnt2 G (S0 ++ L.take i) (El.take (j + 1)) p = cnt2 G (S0 ++ L.take i) (El.take j) p := fun p hp => by
        unfold cnt2
        have : p ∈ El.take (j + 1) ↔ p ∈ El.take j := by rw [mem_take_snoc hs]; simp [hp]
        simp only [this]
      have c00 : cnt G S0 s ≤ cnt2 G (S0 ++ L.take i) (El.take j) s := Nat.le_trans (cnt_mono (fun x hx => List.mem_append_left _ hx) s) (Nat.le_add_right _ _)
      obtain ⟨j1, j2⟩ := hJ.step ⟨s0, s1⟩ c1 c2' c00
      have hat : atI ((im G.length fun p => ((lack G hand ins want p : Nat) : Int) - ((cnt2 G (S0 ++ L.take i) (El.take j) p : Nat) : Int)).map V.int) s = some (.int (((lack G hand ins want s : Nat) : Int) - ((cnt2 G (S0 ++ L.take i) (El.take j) s : Nat) : Int))) := atI_i s0 (by rw [List.getElem?_map, im_at s0 s1]; rfl)
      refine ⟨_, rfl, _, rfl, ka, _, _, _, rfl, rfl, SqL.of hk3, s0, hat, _, _, rfl, rfl, ka, _, _, s.toNat, rfl, rfl, hk3, ?_, ?_⟩
      · unfold ixN; rw [List.length_map, im_len, if_pos s0, if_pos s1]
      have s4 := s3.put kB (.lst (((im G.length fun p => ((lack G hand ins want p : Nat) : Int) - ((cnt2 G (S0 ++ L.take i) (El.take j) p : Nat) : Int)).map V.int).set s.toNat (.int (((lack G hand ins want s : Nat) : Int) - ((cnt2 G (S0 ++ L.take i) (El.take j) s : Nat) : Int) - 1))))
      have hk4 : upd H3 ka (.lst (((im G.length fun p => ((lack G hand ins want p : Nat) : Int) - ((cnt2 G (S0 ++ L.take i) (El.take j) p : Nat) : Int)).map V.int).set s.toNat (.int (((lack G hand ins want s : Nat) : Int) - ((cnt2 G (S0 ++ L.take i) (El.take j) s : Nat) : Int) - 1)))) ka = some (.lst ((im G.length fun p => ((lack G hand ins want p : Nat) : Int) - ((cnt2 G (S0 ++ L.take i) (El.take (j + 1)) p : Nat) : Int)).map V.int)) := by
        rw [upd_same, map_set_int, im_set s0 s1]
        congr 3
        refine im_congr fun p _ _ => ?_
        by_cases e : p = s
        · subst e; rw [if_pos rfl, c1]; omega
        · rw [if_neg e, c2' p e]
      have hj4 : upd H3 ka (.lst (((im G.length fun p => ((lack G hand ins want p : Nat) : Int) - ((cnt2 G (S0 ++ L.take i) (El.take j) p : Nat) : Int)).map V.int).set s.toNat (.int (((lack G hand ins want s : Nat) : Int) - ((cnt2 G (S0 ++ L.take i) (El.take j) s : Nat) : Int) - 1)))) jo = some (.lst (J.map V.int)) := by rw [upd_ne njk]; exact hj3
      generalize upd H3 ka (.lst (((im G.length fun p => ((lack G hand ins want p : Nat) : Int) - ((cnt2 G (S0 ++ L.take i) (El.take j) p : Nat) : Int)).map V.int).set s.toNat (.int (((lack G hand ins want s : Nat) : Int) - ((cnt2 G (S0 ++ L.take i) (El.take j) s : Nat) : Int) - 1)))) = H4 at s4 hk4 hj4 ⊢
      have hat2 : atI ((im G.length fun p => ((lack G hand ins want p : Nat) : Int) - ((cnt2 G (S0 ++ L.take i) (El.take (j + 1)) p : Nat) : Int)).map V.int) s = some (.int (((lack G hand ins want s : Nat) : Int) - ((cnt2 G (S0 ++ L.take i) (El.take (j + 1)) s : Nat) : Int))) := atI_i s0 (by rw [List.getElem?_map, im_at s0 s1]; rfl)
      have hJl : J.length ≤ 160 := by
        have := nodup_sub J (rng G.length) hJ.1 fun x hx => mem_rng.mpr ((hJ.2 x).mp hx).1
        unfold rng at this
        simp at this
        omega
      refine (rd_ixv rfl rfl (SqL.of hk4) hat2 ⟨rfl, _, rfl, ?_⟩)
      refine ite2 (fun c => ?_) (fun c => ?_)
      · have c3 : ((lack G hand ins want s : Nat) : Int) - ((cnt2 G (S0 ++ L.take i) (El.take (j + 1)) s : Nat) : Int) = 0 := by have := of_decide_eq_true c; injection this
        refine ⟨_, rfl, .inl ⟨rfl, _, SqL.of hj4⟩, _, rfl, jo, _, _, rfl, rfl, hj4, smlt (m := 1000) (by rw [List.length_map]; omega), ?_⟩
        exact ⟨J ++ [s], _, rfl, s4.put jB _, by rw [upd_ne (Ne.symm njk)]; exact hk4, by rw [upd_same, List.map_append]; rfl, j1 (by omega)⟩
      · have c3 : ¬ ((lack G hand ins want s : Nat) : Int) - ((cnt2 G (S0 ++ L.take i) (El.take (j + 1)) s : Nat) : Int) = 0 := fun z => c (decide_eq_true (by rw [z]))
        exact ⟨J, _, rfl, s4, hk4, hj4, j2 (by omega)⟩
    · obtain ⟨J, y2, rfl, s3, hk3, hj3, hJ⟩ := h
      rw [List.length_map, List.take_length] at hk3 hJ
      refine ⟨J, _, _, rfl, s3, ?_, hj3, hJ.1, fun p => ?_⟩
      · rw [hk3]
        congr 3
        exact im_congr fun p p0 p1 => by rw [hcs p ⟨p0, p1⟩]
      · rw [hJ.2 p]
        constructor
        · rintro ⟨h1, h2⟩; rw [hcs p h1]; exact ⟨h1, h2⟩
        · rintro ⟨h1, h2⟩; rw [hcs p h1] at h2; exact ⟨h1, h2⟩
  · obtain ⟨J, y1, y2, rfl, s2, hk2, hj2, hJ⟩ := h
    rw [List.length_map, List.take_length] at hk2 hJ
    have hJl : J.length ≤ 160 := by
      have := nodup_sub J (rng G.length) hJ.1 fun x hx => mem_rng.mpr ((hJ.2 x).mp hx).1
      unfold rng at this
      simp at this
      omega
    refine ⟨_, rfl, jo, J, rfl, SqL.of hj2, by omega, fun p ns hp pm pw => ?_⟩
    have nkp : ka ≠ p := fun z => by rw [← z, hk2] at hp; cases hp
    have hpH : H p = none := by
      have := s2.free hp
      rw [del_at (Ne.symm nkp)] at this; exact this
    refine q p ns _ (s2.trans (same_upd hp _)) hpH upd_same (by rw [upd_ne nkp]; exact hk2) (rise_lt pw (pm.symm.nodup hJ.1)) fun x => ?_
    rw [pm.mem_iff]; exact hJ.2 x
theorem run_nil {G : List Row} {hand : Int} {ins : Int → Bool} {k : Nat} {Ls : List (List Int)} : run G hand ins k Ls [] = Ls := by
  cases k with
  | zero => rfl
  | succ k => unfold run; rw [if_pos rfl]
theorem rng_len (n : Nat) : (rng n).length = n := by unfold rng; simp
def spLayers : Sp := fun vs H Q _ => Ex9 fun (v : V) (qv : V) (G : List Row) (hand : Int) (r : Addr) (ga : Addr) (as : List Addr) (goal : List Int) (ins : Int → Bool) => And7 (vs = [v, .ref r, .int hand, .ref ga, qv]) (rGame H G v) (GOk G) (Cells H r as (wi G G.length)) (H ga = some (.lst (goal.map V.int))) (PartIs H qv ins) (∀ (p : Addr) (H' : Hp), Same H H' → rLst (rLst rInt) (newp H H') (layers G hand ins fun x => decide (x ∈ goal)) (.ref p) → Q (.ref p) H')
theorem ok_layers (F : DefAt K mg "layers_to" s_layers_to ["game", "entries", "hand", "goal", "part"]) (T : Txt mg) (D_part_marks : Dn P w K mg base "part_marks" 4 ["game", "part"] spPart) (D_place_marks : Dn P w K mg base "place_marks" 3 ["count", "places"] spMarks) (D_lacking_ways : Dn P w K mg base "lacking_ways" 1 ["game", "hand", "inside", "wanted"] spLack) (D_next_layer : Dn P w K mg base "next_layer" 1 ["layer", "entries", "lacking"] spNext) :
    Dn P w K mg base "layers_to" 5 ["game", "entries", "hand", "goal", "part"] spLayers := by
  have sc := sc_layers_to
  refine F.ok sc (fun vs H Q E h => ?_) (fun f cdv A outer s H vs Q E hr h => ?_)
  · obtain ⟨_, _, _, _, _, _, _, _, _, rfl, _⟩ := h; rfl
  obtain ⟨v, qv, G, hand, r, ga, as, goal, ins, rfl, hG, hok, hC, hga, hP, q⟩ := h
  obtain ⟨g0, gv, rfl, hg0, hgl, hrow⟩ := game_parts hG
  have h160 := hok.1
  refine ⟨_, (pss_cons (ps_set (i := 5) sc.nd rfl (Or.inr rfl) (pe_dn D_part_marks hr (pa_cons (pv 0) (pa_cons (pv 4) pa_nil))))
      (pss_cons (ps_set (i := 6) sc.nd rfl (Or.inr rfl) (pe_dn D_place_marks hr (pa_cons (pe_callB (clLen (K := K) rfl) rfl T.b_len PySem.boot_len (pa_cons (pv 0) pa_nil)) (pa_cons (pv 3) pa_nil))))
      (pss_cons (ps_set (i := 7) sc.nd rfl (Or.inl rfl) (pe_dn D_lacking_ways hr (pa_cons (pv 0) (pa_cons (pv 2) (pa_cons (pv 5) (pa_cons (pv 6) pa_nil))))))
      (pss_cons (ps_set (i := 8) sc.nd rfl (Or.inl rfl) (pe_lst pa_nil))
      (pss_cons (ps_lc (i := 9) (defScope s_layers_to) ["game", "entries", "hand", "goal", "part", "inside", "wanted", "lacking", "layers", "layer"] ["place", "inside", "wanted"] 1 [5, 6] sc.nd rfl rfl (pi_range1 rfl T.b_range (pa_cons (pe_callB (clLen (K := K) rfl) rfl T.b_len PySem.boot_len (pa_cons (pv 0) pa_nil)) pa_nil)) (fun _ _ _ _ _ _ => (ptg_name (show List.Nodup (["place", "inside", "wanted"] : List Str) by decide +kernel) rfl rfl)) (fun _ _ _ _ _ _ => (pts_one (PW.pt (pw_and (pt_val (pe_ix (ixL (K := K) rfl) (pv 1) (pv 0) (fun _ _ => rfl))) (pw_and1 (pt_val (pe_ix (ixL (K := K) rfl) (pv 2) (pv 0) (fun _ _ => rfl)))))))) (fun _ _ _ _ _ _ => (pv 0)))
      (pss_cons (ps_while PassesOwn.never (pt_truth (pv 9) (by intro _; rfl))
      (pss_cons (ps_expr (pe_bm PySem.F.plainAttrs_list PySem.F.slot_list_append PySem.F.type_list_append mt_append (pv 8) (pa_cons (pv 9) pa_nil)))
      (pss_one (ps_set (i := 9) sc.nd rfl (Or.inl rfl) (pe_dn D_next_layer hr (pa_cons (pv 9) (pa_cons (pv 1) (pa_cons (pv 7) pa_nil))))))))
      (pss_one (ps_ret (pv 8))))))))), ?_⟩
  refine ⟨_, rfl, _, rfl, _, qv, G, ins, rfl, hG, h160, hP, fun ia H1 s1 hia0 hia => ?_⟩
  refine ⟨_, rfl, g0, _, rfl, .inl (SqL.of (s1 _ _ hg0)), _, rfl, gv.length, ga, goal, rfl, by omega, s1 _ _ hga, fun wa H2 s2 hwa0 hwa => ?_⟩
  rw [hgl] at hwa
  have s12 := s1.trans s2
  refine ⟨_, rfl, _, rfl, _, rfl, _, rfl, _, G, hand, ia, wa, ins, (fun x => decide (x ∈ goal)), rfl, mono_game.up s12 hG, hok, s2 _ _ hia, hwa, fun ka H3 s3 hka2 hka => ?_⟩
  have s13 := s12.trans s3
  have hka0 : H ka = none := s12.free hka2
  refine ⟨Nat.zero_le _, fun g hg => ?_⟩
  have s4 := same_upd hg (.lst [])
  have s14 := s13.trans s4
  have hg0' : H g = none := s13.free hg
  have hgg : upd H3 g (.lst []) g = some (.lst []) := upd_same
  have hia4 := s4 _ _ (s3 _ _ (s2 _ _ hia))
  have hwa4 := s4 _ _ (s3 _ _ hwa)
  have hka4 := s4 _ _ hka
  have ngk : g ≠ ka := fun z => by rw [z, hka] at hg; cases hg
  generalize upd H3 g (.lst []) = H4 at s4 s14 hgg hia4 hwa4 hka4 ⊢
  generalize hwant : (fun x => decide (x ∈ goal)) = want at hwa4 hka4 ⊢
  rw [hwant] at q
  refine ⟨_, rfl, g0, _, rfl, .inl (SqL.of (s14 _ _ hg0)), _, rfl, by omega, by omega, comp_rangeD (lo := 0) (n := ((gv.length : Nat) : Int).toNat) (fun i ys H5 => H5 = H4 ∧ ys = ((rng i).filter fun p => ins p && want p).map V.int) ⟨rfl, rfl⟩ (small (m := 1000) (by omega)) (fun i ys H5 _ h => ?_) (fun i ys H5 hi h => ?_) (fun ys H5 h la hla => ?_)⟩
  · obtain ⟨rfl, rfl⟩ := h
    rw [List.length_map]
    exact Nat.le_trans (List.length_filter_le _ _) (by rw [rng_len]; exact Nat.le_refl _)
  · obtain ⟨rfl, rfl⟩ := h
    rw [Int.toNat_natCast, hgl] at hi
    have add : ∀ b : Bool, (ins ((i : Nat) : Int) && want ((i : Nat) : Int)) = b → ((rng (i + 1)).filter fun p => ins p && want p).map V.int = ((rng i).filter fun p => ins p && want p).map V.int ++ if b = true then [V.int ((i : Nat) : Int)] else [] := fun b hb => by
      rw [rng_snoc, List.filter_append, List.map_append]
      congr 1
      cases b with
      | true => rw [List.filter_cons_of_pos (p := fun p => ins p && want p) hb]; rfl
      | false => rw [List.filter_cons_of_neg (p := fun p => ins p && want p) (by simp [hb])]; rfl
    refine (rd_ixv rfl rfl (SqL.of hia4) (by rw [Int.zero_add]; exact atI_i (by omega) (bm_at (by omega) (by omega))) ⟨_, rfl, ?_⟩)
    refine ite2 (fun c => ?_) (fun c => ?_)
    · refine (rd_ixv rfl rfl (SqL.of hwa4) (by rw [Int.zero_add]; exact atI_i (by omega) (bm_at (by omega) (by omega))) ⟨_, rfl, ?_⟩)
      refine ite2 (fun c2 => ?_) (fun c2 => ?_)
      · refine ⟨_, rfl, rfl, ?_⟩
        rw [add true (by rw [c, c2]; rfl), if_pos rfl, Int.zero_add]
      · refine ⟨rfl, ?_⟩
        rw [add false (by rw [c]; simpa using c2), if_neg (by simp), List.append_nil]
    · refine iteF ?_
      refine ⟨rfl, ?_⟩
      rw [add false (by rw [Bool.and_eq_false_iff]; exact .inl (by simpa using c)), if_neg (by simp), List.append_nil]
  obtain ⟨rfl, rfl⟩ := h
  rw [Int.toNat_natCast, hgl]
  have s5 := same_upd hla (.lst (((rng G.length).filter fun p => ins p && want p).map V.int))
  have nlk : la ≠ ka := fun z => by rw [z, hka4] at hla; cases hla
  have nlg : la ≠ g := fun z => by rw [z, hgg] at hla; cases hla
  have nr : r ≠ ka := fun z => by have := hC.hd; rw [z, hka0] at this; cases this
  have nas : ∀ a ∈ as, a ≠ ka := fun a ha z => by
    obtain ⟨i, hi⟩ := List.getElem?_of_mem ha
    obtain ⟨_, _, h2⟩ := hC.cell i a hi
    rw [z, hka0] at h2; cases h2
  refine ⟨fun m σ Hx => Ex5 fun (Ls : List (List Int)) (L : List Int) (la : Addr) (ls : List Addr) (k : Nat) => And16 (σ = [some (.ref g0), some (.ref r), some (.int hand), some (.ref ga), some qv, some (.ref ia), some (.ref wa), some (.ref ka), some (.ref g), some (.ref la)]) (Same H Hx) (Hx g = some (.lst (ls.map V.ref))) (Hx la = some (.lst (L.map V.int))) (H la = none) (la ≠ ka) (la ≠ g) (ls.length = Ls.length) ((∀ (i : Nat) a, ls[i]? = some a → ∃ l, Ls[i]? = some l ∧ Hx a = some (.lst (l.map V.int)) ∧ H a = none ∧ a ≠ ka ∧ a ≠ g)) (Hx ka = some (.lst ((im G.length fun p => ((lack G hand ins want p : Nat) : Int) - ((cnt G Ls.flatten p : Nat) : Int)).map V.int))) (LI G hand ins Ls L) (Seen G hand ins want Ls.flatten (Ls.flatten ++ L)) (run G hand ins k Ls L = layers G hand ins want) (G.length + 1 ≤ k + Ls.flatten.length) (Ls.length ≤ Ls.flatten.length) (m = G.length - Ls.flatten.length),
    ⟨_, [], lay0 G ins want, la, [], G.length + 1, rfl, s14.trans s5, s5 _ _ hgg, upd_same, s14.free hla, nlk, nlg, rfl, (fun i a h => by cases h), ?_, LI.start want, Seen.start, rfl, by simp, by simp, rfl⟩, ?_⟩
  · rw [s5 _ _ hka4]
    congr 3
    exact im_congr fun p _ _ => by
      have : cnt G ([] : List (List Int)).flatten p = 0 := by unfold cnt; simp
      rw [this]; omega
  rintro m σ Hx ⟨Ls, L, la, ls, k, rfl, sx, hxg, hxl, hl0, nlk, nlg, hll, hls, hxk, hLI, hSeen, hrun, hk, hLl, rfl⟩
  have hlen := hLI.len
  refine ⟨_, rfl, _, .inl ⟨_, SqL.of hxl, rfl⟩, ?_⟩
  refine ite2 (fun c => ?_) (fun c => ?_)
  · have hne : L ≠ [] := fun z => by subst z; simp at c
    have hLp : 0 < L.length := List.length_pos_iff.mpr hne
    obtain ⟨k', rfl⟩ : ∃ k', k = k' + 1 := ⟨k - 1, by omega⟩
    have hrun2 : run G hand ins k' (Ls ++ [L]) (nxt G hand ins (Ls.flatten ++ L)) = layers G hand ins want := by
      rw [← hrun]; conv => rhs; unfold run
      rw [if_neg hne]
    have hfl : (Ls ++ [L]).flatten = Ls.flatten ++ L := by simp
    refine ⟨fun σ' H' => ∃ la' : Addr, And9 (σ' = [some (.ref g0), some (.ref r), some (.int hand), some (.ref ga), some qv, some (.ref ia), some (.ref wa), some (.ref ka), some (.ref g), some (.ref la')]) (Same H H') (H' g = some (.lst ((ls ++ [la]).map V.ref))) (H' la' = some (.lst ((nxt G hand ins (Ls.flatten ++ L)).map V.int))) (H la' = none) (la' ≠ ka) (la' ≠ g) ((∀ (i : Nat) a, (ls ++ [la])[i]? = some a → ∃ l, (Ls ++ [L])[i]? = some l ∧ H' a = some (.lst (l.map V.int)) ∧ H a = none ∧ a ≠ ka ∧ a ≠ g)) (H' ka = some (.lst ((im G.length fun p => ((lack G hand ins want p : Nat) : Int) - ((cnt G (Ls.flatten ++ L) p : Nat) : Int)).map V.int))), ?_, ?_⟩
    · rintro σ' H' ⟨la', rfl, a1, a2, a3, a4, a5, a6, a7, a8⟩
      refine ⟨_, ?_, Ls ++ [L], nxt G hand ins (Ls.flatten ++ L), la', ls ++ [la], k', rfl, a1, a2, a3, a4, a5, a6, by simp [hll], a7, by rw [hfl]; exact a8, hLI.next, by rw [hfl]; exact hSeen.next hok.wok hLI.inn fun x hx => List.mem_append_left _ hx, hrun2, ?_, ?_, rfl⟩
      · rw [hfl, List.length_append]; omega
      · rw [hfl, List.length_append]; omega
      · rw [hfl]; simp only [List.length_append, List.length_singleton]; omega
    · refine ⟨_, rfl, .inl ⟨rfl, _, SqL.of hxg⟩, _, rfl, g, _, _, rfl, rfl, hxg, smlt (m := 1000) (by rw [List.length_map]; omega), ?_⟩
      have sy := sx.put hg0' (.lst (ls.map V.ref ++ [V.ref la]))
      have hyg : upd Hx g (.lst (ls.map V.ref ++ [V.ref la])) g = some (.lst ((ls ++ [la]).map V.ref)) := by rw [upd_same, List.map_append]; rfl
      have hyl : upd Hx g (.lst (ls.map V.ref ++ [V.ref la])) la = some (.lst (L.map V.int)) := by rw [upd_ne nlg]; exact hxl
      have hyk : upd Hx g (.lst (ls.map V.ref ++ [V.ref la])) ka = some (.lst ((im G.length fun p => ((lack G hand ins want p : Nat) : Int) - ((cnt G Ls.flatten p : Nat) : Int)).map V.int)) := by rw [upd_ne (Ne.symm ngk)]; exact hxk
      have hys : ∀ (i : Nat) a, ls[i]? = some a → ∃ l, Ls[i]? = some l ∧ upd Hx g (.lst (ls.map V.ref ++ [V.ref la])) a = some (.lst (l.map V.int)) ∧ H a = none ∧ a ≠ ka ∧ a ≠ g := fun i a hi => by
        obtain ⟨l, b1, b2, b3, b4, b5⟩ := hls i a hi
        exact ⟨l, b1, by rw [upd_ne b5]; exact b2, b3, b4, b5⟩
      generalize upd Hx g (.lst (ls.map V.ref ++ [V.ref la])) = Hy at sy hyg hyl hyk hys ⊢
      have hnd := hLI.nd
      rw [List.nodup_append] at hnd
      refine ⟨_, rfl, _, rfl, _, rfl, la, r, ka, as, G, hand, ins, want, Ls.flatten, L, rfl, hok, hyl, nlk, hC.up sy, nr, nas, hyk, hnd.2.1, fun x hx => ⟨fun z => hnd.2.2 x z x hx rfl, hLI.rg x (List.mem_append_right _ hx)⟩, fun p ns H' s' hp hns hk' pw mem => ?_⟩
      have ens : ns = nxt G hand ins (Ls.flatten ++ L) := lt_ext pw (nxt_lt _) fun x => by
        rw [mem x, nxt_mem]
        constructor
        · rintro ⟨h1, h2⟩; exact ⟨h1, (chr_count hok.wok hSeen hLI.inn (fun y hy => List.mem_append_left _ hy) h1).mpr h2⟩
        · rintro ⟨h1, h2⟩; exact ⟨h1, (chr_count hok.wok hSeen hLI.inn (fun y hy => List.mem_append_left _ hy) h1).mp h2⟩
      subst ens
      have keep : ∀ b o, b ≠ ka → Hy b = some o → H' b = some o := fun b o hb e => s' b o (by rw [del_at hb]; exact e)
      have npk : p ≠ ka := fun z => by rw [z, hyk] at hp; cases hp
      have npg : p ≠ g := fun z => by rw [z, hyg] at hp; cases hp
      refine ⟨p, rfl, fun b o e => keep b o (fun z => by rw [z, hka0] at e; cases e) (sy _ _ e), keep _ _ ngk hyg, hns, sy.free hp, npk, npg, fun i a hi => ?_, hk'⟩
      by_cases c2 : i < ls.length
      · rw [List.getElem?_append_left c2] at hi
        obtain ⟨l, b1, b2, b3, b4, b5⟩ := hys i a hi
        exact ⟨l, by rw [List.getElem?_append_left (by omega)]; exact b1, keep _ _ b4 b2, b3, b4, b5⟩
      · have hi2 := (List.getElem?_eq_some_iff.mp hi).1
        rw [List.length_append, List.length_singleton] at hi2
        have hil : i = ls.length := by omega
        subst hil
        rw [List.getElem?_append_right (Nat.le_refl _), Nat.sub_self] at hi
        have : la = a := Option.some.inj hi
        subst this
        exact ⟨L, by rw [hll, List.getElem?_append_right (Nat.le_refl _), Nat.sub_self]; rfl, keep _ _ nlk hyl, hl0, nlk, nlg⟩
  · have hem : L = [] := by
      cases L with
      | nil => rfl
      | cons x xs => exact absurd rfl c
    subst hem
    rw [run_nil] at hrun
    subst hrun
    refine ⟨_, rfl, q g Hx sx ⟨g, _, rfl, by rw [newp_at hg0']; exact hxg, paired_of (by rw [List.length_map]; exact hll.symm) fun i l v hl hv => ?_⟩⟩
    rw [List.getElem?_map] at hv
    cases e : ls[i]? with
    | none => rw [e] at hv; cases hv
    | some a =>
      rw [e] at hv; cases hv
      obtain ⟨l', b1, b2, b3, _⟩ := hls i a e
      rw [hl] at b1; cases b1
      exact new_ints b3 b2
def spPulled : Sp := fun vs H Q _ => Ex7 fun (v : V) (qv : V) (G : List Row) (hand : Int) (ga : Addr) (goal : List Int) (ins : Int → Bool) => And6 (vs = [v, .int hand, .ref ga, qv]) (rGame H G v) (GOk G) (H ga = some (.lst (goal.map V.int))) (PartIs H qv ins) (∀ (p : Addr) (H' : Hp), Same H H' → rLst (rLst rInt) (newp H H') (layers G hand ins fun x => decide (x ∈ goal)) (.ref p) → Q (.ref p) H')
theorem ok_pulled {dvs : List V} (F : DefAtD K mg "pulled" s_pulled ["game", "hand", "goal", "part"] dvs) (T : Txt mg) (D_ways_in : Dn P w K mg base "ways_in" 1 ["game"] spIn) (D_layers_to : Dn P w K mg base "layers_to" 5 ["game", "entries", "hand", "goal", "part"] spLayers) : DnD P w K mg base "pulled" 6 ["game", "hand", "goal", "part"] dvs spPulled := by
  have sc := sc_pulled
  refine F.ok sc (fun vs H Q E h => ?_) (fun f cdv A outer s H vs Q E hr h => ?_)
  · obtain ⟨_, _, _, _, _, _, _, rfl, _⟩ := h; rfl
  obtain ⟨v, qv, G, hand, ga, goal, ins, rfl, hG, hok, hga, hP, q⟩ := h
  refine ⟨_, (pss_one (ps_ret (pe_dn D_layers_to hr (pa_cons (pv 0) (pa_cons (pe_dn D_ways_in hr (pa_cons (pv 0) pa_nil)) (pa_cons (pv 1) (pa_cons (pv 2) (pa_cons (pv 3) pa_nil)))))))), ?_⟩
  refine ⟨_, rfl, _, rfl, v, G, rfl, hG, hok, fun r as H1 s1 hr0 hfree hC => ?_⟩
  exact ⟨_, rfl, _, rfl, _, rfl, v, qv, G, hand, r, ga, as, goal, ins, rfl, mono_game.up s1 hG, hok, hC, s1 _ _ hga, hP.up s1, fun p H2 s2 hp => q p H2 (s1.trans s2) ((mono_lst (mono_lst mono_int)).up (newp_up s1) hp)⟩
def LOk (n : Nat) (R : List (List Int)) : Prop := R.length ≤ 160 ∧ R.flatten.Nodup ∧ ∀ L ∈ R, L ≠ [] ∧ L.Pairwise (· < ·) ∧ L.length ≤ 160 ∧ ∀ x ∈ L, 0 ≤ x ∧ x < n
theorem run_bound {G : List Row} {hand : Int} {ins : Int → Bool} (k : Nat) : ∀ (Ls : List (List Int)) (L : List Int), LI G hand ins Ls L → Ls.length ≤ Ls.flatten.length → (run G hand ins k Ls L).length ≤ (run G hand ins k Ls L).flatten.length ∧ (run G hand ins k Ls L).flatten.length ≤ G.length := by
  induction k with
  | zero => intro Ls L h1 h2; exact ⟨h2, by have := h1.len; show Ls.flatten.length ≤ _; omega⟩
  | succ k ih =>
    intro Ls L h1 h2
    by_cases c : L = []
    · subst c
      rw [run_nil]
      exact ⟨h2, by have := h1.len; omega⟩
    · have e : run G hand ins (k + 1) Ls L = run G hand ins k (Ls ++ [L]) (nxt G hand ins (Ls.flatten ++ L)) := by
        show (if L = [] then Ls else run G hand ins k (Ls ++ [L]) (nxt G hand ins (Ls.flatten ++ L))) = _
        rw [if_neg c]
      rw [e]
      refine ih _ _ h1.next ?_
      have : 0 < L.length := List.length_pos_iff.mpr c
      have hfl : (Ls ++ [L]).flatten = Ls.flatten ++ L := by simp
      rw [hfl]
      simp only [List.length_append, List.length_singleton]; omega
theorem flat_mem {R : List (List Int)} {L : List Int} (h : L ∈ R) : L.length ≤ R.flatten.length := by
  induction R with
  | nil => cases h
  | cons a R ih =>
    rw [List.flatten_cons, List.length_append]
    rcases List.mem_cons.mp h with rfl | h
    · omega
    · have := ih h; omega
theorem layers_bound {G : List Row} {hand : Int} {ins want : Int → Bool} (h : G.length ≤ 160) : (layers G hand ins want).length ≤ 160 ∧ ∀ L ∈ layers G hand ins want, L.length ≤ 1000 := by
  obtain ⟨h1, h2⟩ := run_bound (G := G) (hand := hand) (ins := ins) (G.length + 1) [] (lay0 G ins want) (LI.start want) (by simp)
  refine ⟨by unfold layers; omega, fun L hL => ?_⟩
  have := flat_mem hL
  unfold layers at this
  omega
theorem ints_rel {H : Hp} {r : Addr} {L : List Int} (h : H r = some (.lst (L.map V.int))) : rLst rInt H L (.ref r) := rLst_ints.mpr ⟨r, rfl, h⟩
theorem lay_ok {G : List Row} {hand : Int} {ins want : Int → Bool} (h : G.length ≤ 160) : LOk G.length (layers G hand ins want) := by
  obtain ⟨h1, h2⟩ := run_bound (G := G) (hand := hand) (ins := ins) (G.length + 1) [] (lay0 G ins want) (LI.start want) (by simp)
  have hl := layers_lay (G := G) (hand := hand) (ins := ins) (want := want)
  refine ⟨(layers_bound h).1, hl.nd, fun L hL => ?_⟩
  obtain ⟨k, hk⟩ := List.getElem?_of_mem hL
  obtain ⟨c1, c2⟩ := hl.ch k L hk
  have hf := flat_mem hL
  unfold layers at hf
  refine ⟨c2, ?_, by omega, fun x hx => hl.li.rg x (List.mem_append_left _ (List.mem_flatten.mpr ⟨L, hL, hx⟩))⟩
  rw [c1]
  unfold nx
  split
  · exact (rng_lt _).filter _
  · exact nxt_lt _
def spLeast : Sp := fun vs H Q _ => Ex6 fun (wa : Addr) (ma : Addr) (ws : List Int) (n : Nat) (f : Int → Bool) (v : Int) => And8 (vs = [.ref wa, .ref ma]) (H wa = some (.lst (ws.map V.int))) (H ma = some (.lst (bm n f))) (ws.Pairwise (· < ·)) ((∀ x ∈ ws, 0 ≤ x ∧ x < n)) (ws.length ≤ 40) ((ws.filter f).head? = some v) (∀ H' : Hp, Same H H' → Q (.int v) H')
theorem ok_least (F : DefAt K mg "least_way" s_least_way ["ways", "marks"]) (T : Txt mg) : Dn P w K mg base "least_way" 1 ["ways", "marks"] spLeast := by
  have sc := sc_least_way
  refine F.ok sc (fun vs H Q E h => ?_) (fun f cdv A outer s H vs Q E hr h => ?_)
  · obtain ⟨_, _, _, _, _, _, rfl, _⟩ := h; rfl
  obtain ⟨wa, ma, ws, n, f, v, rfl, hwa, hma, pw, w2, w3, hv, q⟩ := h
  refine ⟨_, (pss_one (ps_ret (pe_callB (call_minL rfl) rfl T.b_min PyProof.Rows.boot_min (pa_cons (pe_lc (defScope s_least_way) ["ways", "marks"] ["way", "marks"] 1 [1] (pi_list (pv 0)) (fun _ _ _ _ _ _ => (ptg_name (show List.Nodup (["way", "marks"] : List Str) by decide +kernel) rfl rfl)) (fun _ _ _ _ _ _ => (pts_one (pt_val (pe_ix (ixL (K := K) rfl) (pv 1) (pv 0) (fun _ _ => rfl))))) (fun _ _ _ _ _ _ => (pv 0))) pa_nil)))), ?_⟩
  refine ⟨_, rfl, wa, rfl, ⟨_, SqL.of hwa⟩, comp_listD (K := K) (a := wa) (xs := ws.map V.int) (fun k ys H4 => H4 = H ∧ ys = ((ws.take k).filter f).map V.int) ⟨rfl, rfl⟩ (small (m := 1000) (by rw [List.length_map]; omega)) (fun k ys H4 hk h => ?_) (fun k x ys H4 hk h => ?_) (fun ys H4 h p hp => ?_)⟩
  · obtain ⟨rfl, rfl⟩ := h
    exact ⟨SqL.of hwa, by rw [List.length_map]; exact Nat.le_trans (List.length_filter_le _ _) (by simp; omega)⟩
  · obtain ⟨rfl, rfl⟩ := h
    obtain ⟨z, hz, rfl⟩ := int_of_at hk
    obtain ⟨z0, z1⟩ := w2 z (List.mem_of_getElem? hz)
    refine (rd_ixv rfl rfl (SqL.of hma) (atI_i z0 (bm_at z0 z1)) ⟨_, rfl, ?_⟩)
    refine ite2 (fun c4 => ?_) (fun c4 => ?_)
    · refine ⟨_, rfl, rfl, ?_⟩
      rw [List.take_add_one, hz, List.filter_append, List.map_append]
      show _ = _ ++ (List.filter f [z]).map V.int
      rw [List.filter_cons_of_pos c4]; rfl
    · refine ⟨rfl, ?_⟩
      rw [List.take_add_one, hz, List.filter_append, List.map_append]
      show _ = _ ++ (List.filter f [z]).map V.int
      rw [List.filter_cons_of_neg c4]; simp
  obtain ⟨rfl, rfl⟩ := h
  rw [List.length_map, List.take_length]
  refine ⟨p, ws.filter f, rfl, SqL.of upd_same, fun z => (by rw [z] at hv; cases hv), fun M hM hmin => ?_⟩
  rw [head_least (pw.filter _) hv hM hmin]
  exact q _ (same_upd hp _)
def spLW : Sp := fun vs H Q _ => Ex7 fun (v : V) (lw : V) (G : List Row) (hand : Int) (ins : Int → Bool) (want : Int → Bool) (R : List (List Int)) => And7 (vs = [v, .int hand, lw]) (rGame H G v) (GOk G) (rLst (rLst rInt) H R lw) (Lay G hand ins want R) (LOk G.length R) (∀ (p : Addr) (X : Int → Option Int) (H' : Hp), Same H H' → H p = none → H' p = some (.lst (om G.length X)) → PR G R (fun k p => lv R (k + 1) p ∧ hd G p = hand) X → Q (.ref p) H')
theorem ok_lw (F : DefAt K mg "layer_ways" s_layer_ways ["game", "hand", "layers"]) (T : Txt mg) (D_place_marks : Dn P w K mg base "place_marks" 3 ["count", "places"] spMarks) (D_least_way : Dn P w K mg base "least_way" 1 ["ways", "marks"] spLeast) : Dn P w K mg base "layer_ways" 4 ["game", "hand", "layers"] spLW := by
  have sc := sc_layer_ways
  refine F.ok sc (fun vs H Q E h => ?_) (fun f cdv A outer s H vs Q E hr h => ?_)
  · obtain ⟨_, _, _, _, _, _, _, rfl, _⟩ := h; rfl
  obtain ⟨v, lw, G, hand, ins, want, R, rfl, hG, hok, ⟨va, vvs, rfl, hv, pvv⟩, hL, ⟨hR1, hR2, hR3⟩, q⟩ := h
  obtain ⟨g0, gv, rfl, hg0, hgl, hrow⟩ := game_parts hG
  have h160 := hok.1
  have e1 := pvv.length
  refine ⟨_, (pss_cons (ps_set (i := 3) sc.nd rfl (Or.inl rfl) (pe_op op_rep (pe_lst (pa_cons pe_non pa_nil)) (pe_callB (clLen (K := K) rfl) rfl T.b_len PySem.boot_len (pa_cons (pv 0) pa_nil))))
      (pss_cons (ps_for PassesOwn.never rfl (pi_zip (K := K) rfl rfl T.b_zip (pa_cons (pv 2) (pa_cons (pe_slice (slL (K := K) rfl) (pv 2) (po_some pe_int) po_none) pa_nil))) (pg_tup rfl (pgs_cons (pg_name (i := 4) sc.nd rfl (Or.inl rfl)) (pgs_cons (pg_name (i := 5) sc.nd rfl (Or.inl rfl)) pgs_nil)))
      (pss_cons (ps_set (i := 6) sc.nd rfl (Or.inl rfl) (pe_dn D_place_marks hr (pa_cons (pe_callB (clLen (K := K) rfl) rfl T.b_len PySem.boot_len (pa_cons (pv 0) pa_nil)) (pa_cons (pv 4) pa_nil))))
      (pss_one (ps_for PassesOwn.never rfl (pi_list (pv 5)) (pg_name (i := 7) sc.nd rfl (Or.inl rfl))
      (pss_one (ps_if (pt_cmpR op_eq (pe_ix (ixT (K := K) rfl) (pe_ix (ixL (K := K) rfl) (pv 0) (pv 7) (fun _ _ => rfl)) pe_int (fun _ _ => rfl)) (pv 1) (nomark _))
      (pss_one (ps_asg (pe_dn D_least_way hr (pa_cons (pe_ix (ixT (K := K) rfl) (pe_ix (ixL (K := K) rfl) (pv 0) (pv 7) (fun _ _ => rfl)) pe_int (fun _ _ => rfl)) (pa_cons (pv 6) pa_nil))) (pg_sub (pv 3) (pv 7) set_list)))
      pss_nil))))))
      (pss_one (ps_ret (pv 3))))), ?_⟩
  refine ⟨(by show 1 ≤ sizeLine; decide), fun n1 hn1 => ?_⟩
  have s1 := same_upd hn1 (.lst [V.non])
  refine ⟨_, rfl, g0, _, rfl, .inl (SqL.of (s1 _ _ hg0)), n1, _, _, rfl, rfl, upd_same, by omega, by omega, small (m := 1000) (by simp; omega), fun ra hra => ?_⟩
  have s2 := s1.trans (same_upd hra (.lst (List.replicate ((gv.length : Nat) : Int).toNat [V.non]).flatten))
  have hra0 : H ra = none := s1.free hra
  have hra1 : upd (upd H n1 (.lst [V.non])) ra (.lst (List.replicate ((gv.length : Nat) : Int).toNat [V.non]).flatten) ra = some (.lst (om G.length fun _ => none)) := by
    rw [upd_same, Int.toNat_natCast, om_rep, hgl]
  generalize upd (upd H n1 (.lst [V.non])) ra (.lst (List.replicate ((gv.length : Nat) : Int).toNat [V.non]).flatten) = H1 at s2 hra1 ⊢
  refine ⟨_, rfl, _, rfl, _, rfl, va, _, rfl, SqL.of (s2 _ _ hv), fun vb hvb => ?_⟩
  rw [cut_from1]
  have s3 := s2.trans (same_upd hvb (.lst (vvs.drop 1)))
  have hvb1 : upd H1 vb (.lst (vvs.drop 1)) vb = some (.lst (vvs.drop 1)) := upd_same
  have hra3 := same_upd hvb (.lst (vvs.drop 1)) _ _ hra1
  have nbr : vb ≠ ra := fun z => by rw [z, hra1] at hvb; cases hvb
  have hvb0 : H vb = none := s2.free hvb
  generalize upd H1 vb (.lst (vvs.drop 1)) = H3 at s3 hvb1 hra3 ⊢
  have nvr : va ≠ ra := fun z => by rw [z, hra0] at hv; cases hv
  have hS : ∀ Hx : Hp, Same H Hx → SqL K Hx va vvs := fun Hx sx => SqL.of (sx _ _ hv)
  refine ⟨va, vb, rfl, ⟨_, hS _ s3⟩, ⟨_, SqL.of hvb1⟩, for_zipM (K := K) (a := va) (b := vb) (xs := vvs) (ys := vvs.drop 1) (vvs.length - 1) (by omega) (by simp) (.inr (by simp)) (fun i σ H4 => Ex5 fun (y1 : Option V) (y2 : Option V) (y3 : Option V) (y4 : Option V) (X : Int → Option Int) => And5 (σ = [some (.ref g0), some (.int hand), some (.ref va), some (.ref ra), y1, y2, y3, y4]) (Same H H4) (H4 vb = some (.lst (vvs.drop 1))) (H4 ra = some (.lst (om G.length X))) (PR G R (fun k p => k < i ∧ lv R (k + 1) p ∧ hd G p = hand) X))
    ⟨_, _, _, _, _, rfl, s3, hvb1, hra3, PR.zero _ fun k p z => by omega⟩ (fun i σ H4 _ h => ?_) (fun i x y σ H4 Tt hin hi1 hi2 h hT => ?_) (fun σ H4 h => ?_)⟩
  · obtain ⟨_, _, _, _, _, _, s4, hb4, _⟩ := h
    exact ⟨hS _ s4, SqL.of hb4⟩
  · obtain ⟨y1, y2, y3, y4, X, rfl, s4, hb4, hr4, hX⟩ := h
    obtain ⟨A0, hA⟩ : ∃ L, R[i]? = some L := ⟨R[i]'(by omega), by simp⟩
    obtain ⟨B0, hB⟩ : ∃ L, R[i + 1]? = some L := ⟨R[i + 1]'(by omega), by simp⟩
    obtain ⟨x', hx', rx⟩ := Paired.at pvv hA
    rw [hi1] at hx'; cases hx'
    obtain ⟨ca, rfl, hca⟩ := rLst_ints.mp rx
    obtain ⟨y', hy', ry⟩ := Paired.at pvv hB
    rw [List.getElem?_drop, Nat.add_comm, hy'] at hi2; cases hi2
    obtain ⟨cb, rfl, hcb⟩ := rLst_ints.mp ry
    have sT := same_upd hT (.tup [.ref ca, .ref cb])
    refine ⟨Tt, _, rfl, SqT.of upd_same, rfl, _, _, rfl, _, _, rfl, rfl, ?_⟩
    have s5 := s4.trans sT
    have hb5 := sT _ _ hb4
    have hr5 := sT _ _ hr4
    generalize upd H4 Tt (.tup [.ref ca, .ref cb]) = H5 at sT s5 hb5 hr5 ⊢
    refine ⟨_, rfl, g0, _, rfl, .inl (SqL.of (s5 _ _ hg0)), _, rfl, gv.length, ca, A0, rfl, by omega, s5 _ _ hca, fun ma H6 s6 hma0 hma => ?_⟩
    have s06 := s5.trans s6
    have hb6 := s6 _ _ hb5
    have hr6 := s6 _ _ hr5
    have nmr : ma ≠ ra := fun z => by rw [z, hr5] at hma0; cases hma0
    rw [hgl] at hma
    obtain ⟨_, _, _, Br⟩ := hR3 B0 (List.mem_of_getElem? hB)
    have eA : nthL R i = A0 := by unfold nthL; rw [hA]; rfl
    have hBl := (hR3 B0 (List.mem_of_getElem? hB)).2.2.1
    have hBnd : B0.Nodup := lt_nodup (hR3 B0 (List.mem_of_getElem? hB)).2.1
    refine ⟨_, rfl, cb, rfl, ⟨_, SqL.of (s06 _ _ hcb)⟩, for_list (K := K) (a := cb) (xs := B0.map V.int) (fun j σ H7 => Ex2 fun (y4 : Option V) (X : Int → Option Int) => And6 (σ = [some (.ref g0), some (.int hand), some (.ref va), some (.ref ra), some (.ref ca), some (.ref cb), some (.ref ma), y4]) (Same H H7) (H7 vb = some (.lst (vvs.drop 1))) (H7 ma = some (.lst (bm G.length fun x => decide (x ∈ A0)))) (H7 ra = some (.lst (om G.length X))) (PR G R (fun k p => (k < i ∧ lv R (k + 1) p ∧ hd G p = hand) ∨ (k = i ∧ p ∈ B0.take j ∧ hd G p = hand)) X))
      ⟨_, X, rfl, s06, hb6, hma, hr6, hX.congr fun k p => by simp⟩ (fun j σ H7 _ h => ?_) (fun j x σ H7 hj h => ?_) (fun σ H7 h => ?_)⟩
    · obtain ⟨_, _, _, s7, _⟩ := h
      exact SqL.of (s7 _ _ hcb)
    · obtain ⟨y4, X, rfl, s7, hb7, hm7, hr7, hX⟩ := h
      obtain ⟨z, hz, rfl⟩ := int_of_at hj
      have hzB := List.mem_of_getElem? hz
      obtain ⟨z0, z1⟩ := Br z hzB
      obtain ⟨row, hrw⟩ : ∃ row, G[z.toNat]? = some row := ⟨G[z.toNat]'(by omega), by simp⟩
      obtain ⟨t, wa, p1, p2, p3⟩ := hrow z.toNat row hrw
      have ehd := hd_at hrw
      have ewy := wy_at hrw
      obtain ⟨w1, w2, w3⟩ := hok.2 row (List.mem_of_getElem? hrw)
      have hat0 : atI gv z = some (.ref t) := atI_i z0 p1
      have hlz : lv R (i + 1) z := ⟨B0, hB, hzB⟩
      have hzt : z ∉ B0.take j := fun hin => by
        have hjl := (List.getElem?_eq_some_iff.mp hz)
        have hdr : B0.drop j = z :: B0.drop (j + 1) := by rw [List.drop_eq_getElem_cons hjl.1, hjl.2]
        have hpw := hBnd
        rw [← List.take_append_drop j B0, hdr, List.nodup_append] at hpw
        exact hpw.2.2 z hin z (List.mem_cons_self ..) rfl
      refine (rd_gix rfl rfl (SqL.of (s7 _ _ hg0)) hat0 (SqT.of (s7 _ _ p2)) (atI_nat (j := 0) rfl) ⟨_, rfl, rfl, _, rfl, ?_⟩)
      refine ite2 (fun c => ?_) (fun c => ?_)
      · have hh : hd G z = hand := by have := of_decide_eq_true c; injection this with e; rw [ehd]; exact e
        obtain ⟨pv9, hpk, _, _⟩ := hL.pick hlz hh
        have hpk2 := hpk
        unfold pickW at hpk2
        rw [eA, ewy] at hpk2
        refine (rd_gix rfl rfl (SqL.of (s7 _ _ hg0)) hat0 (SqT.of (s7 _ _ p2)) (atI_nat (j := 2) rfl) ⟨_, rfl, wa, ma, row.2.2, G.length, _, pv9, rfl, s7 _ _ p3, hm7, w1, w2, w3, hpk2, fun H8 s8 => ?_⟩)
        have hr8 := s8 _ _ hr7
        refine ⟨_, rfl, _, rfl, ra, _, _, z.toNat, rfl, rfl, hr8, ?_, ?_⟩
        · unfold ixN; rw [om_len, if_pos z0, if_pos z1]
        · refine ⟨_, _, rfl, (s7.trans s8).put hra0 _, by rw [upd_ne nbr]; exact s8 _ _ hb7, by rw [upd_ne nmr]; exact s8 _ _ hm7, by rw [upd_same, om_set z0 z1], hX.set (i := i) (fun k p hp => ?_) (fun k => ?_) hpk⟩
          · rw [mem_take_snoc hz]
            constructor
            · rintro (h | ⟨h1, h2 | h2, h3⟩)
              · exact .inl h
              · exact .inr ⟨h1, h2, h3⟩
              · exact absurd h2 hp
            · rintro (h | ⟨h1, h2, h3⟩)
              · exact .inl h
              · exact .inr ⟨h1, .inl h2, h3⟩
          · constructor
            · rintro (⟨h1, h2, _⟩ | ⟨h1, _⟩)
              · have := lv_one hL.nd h2 hlz; omega
              · exact h1
            · rintro rfl
              exact .inr ⟨rfl, (mem_take_snoc hz).mpr (.inr rfl), hh⟩
      · have hh : ¬ hd G z = hand := fun e => c (decide_eq_true (by rw [← e, ehd]))
        refine ⟨_, _, rfl, s7, hb7, hm7, hr7, hX.congr fun k p => ?_⟩
        rw [mem_take_snoc hz]
        constructor
        · rintro (h | ⟨h1, h2, h3⟩)
          · exact .inl h
          · exact .inr ⟨h1, .inl h2, h3⟩
        · rintro (h | ⟨h1, h2 | h2, h3⟩)
          · exact .inl h
          · exact .inr ⟨h1, h2, h3⟩
          · rw [h2] at h3; exact absurd h3 hh
    · obtain ⟨y4, X, rfl, s7, hb7, hm7, hr7, hX⟩ := h
      rw [List.length_map, List.take_length] at hX
      refine ⟨_, _, _, _, X, rfl, s7, hb7, hr7, hX.congr fun k p => ?_⟩
      constructor
      · rintro (⟨h1, h2⟩ | ⟨rfl, h2, h3⟩)
        · exact ⟨by omega, h2⟩
        · exact ⟨by omega, ⟨B0, hB, h2⟩, h3⟩
      · rintro ⟨h1, h2, h3⟩
        by_cases c : k < i
        · exact .inl ⟨c, h2, h3⟩
        · have : k = i := by omega
          subst this
          obtain ⟨M, hM, hp⟩ := h2
          rw [hB] at hM; cases hM
          exact .inr ⟨rfl, hp, h3⟩
  · obtain ⟨y1, y2, y3, y4, X, rfl, s4, hb4, hr4, hX⟩ := h
    exact ⟨_, rfl, q ra X H4 s4 hra0 hr4 (hX.congr fun k p => ⟨fun z => z.2, fun z => ⟨by have := lv_lt z.1; omega, z⟩⟩)⟩
def spPW : Sp := fun vs H Q _ => Ex7 fun (v : V) (qv : V) (G : List Row) (hand : Int) (ga : Addr) (goal : List Int) (ins : Int → Bool) => And6 (vs = [v, .int hand, .ref ga, qv]) (rGame H G v) (GOk G) (H ga = some (.lst (goal.map V.int))) (PartIs H qv ins) (∀ (p : Addr) (X : Int → Option Int) (H' : Hp), Same H H' → H p = none → H' p = some (.lst (om G.length X)) → PR G (layers G hand ins fun x => decide (x ∈ goal)) (fun k p => lv (layers G hand ins fun x => decide (x ∈ goal)) (k + 1) p ∧ hd G p = hand) X → Q (.ref p) H')
theorem ok_pw {dvs : List V} (F : DefAtD K mg "pull_ways" s_pull_ways ["game", "hand", "goal", "part"] dvs) (T : Txt mg) (D_pulled4 : DnD P w K mg base "pulled" 6 ["game", "hand", "goal", "part"] [] spPulled) (D_layer_ways : Dn P w K mg base "layer_ways" 4 ["game", "hand", "layers"] spLW) : DnD P w K mg base "pull_ways" 7 ["game", "hand", "goal", "part"] dvs spPW := by
  have sc := sc_pull_ways
  refine F.ok sc (fun vs H Q E h => ?_) (fun f cdv A outer s H vs Q E hr h => ?_)
  · obtain ⟨_, _, _, _, _, _, _, rfl, _⟩ := h; rfl
  obtain ⟨v, qv, G, hand, ga, goal, ins, rfl, hG, hok, hga, hP, q⟩ := h
  refine ⟨_, (pss_one (ps_ret (pe_dn D_layer_ways hr (pa_cons (pv 0) (pa_cons (pv 1) (pa_cons (pe_dnD D_pulled4 hr (pa_cons (pv 0) (pa_cons (pv 1) (pa_cons (pv 2) (pa_cons (pv 3) pa_nil))))) pa_nil)))))), ?_⟩
  refine ⟨_, rfl, _, rfl, _, rfl, _, rfl, _, rfl, _, rfl, v, qv, G, hand, ga, goal, ins, rfl, hG, hok, hga, hP, fun p H1 s1 hp => ?_⟩
  exact ⟨v, .ref p, G, hand, ins, _, _, rfl, mono_game.up s1 hG, hok, (mono_lst (mono_lst mono_int)).up (newp_same _ _) hp, layers_lay, lay_ok hok.1, fun pa X H2 s2 hpa hp2 hX => q pa X H2 (s1.trans s2) (s1.free hpa) hp2 hX⟩
def spOut : Sp := fun vs H Q _ => Ex4 fun (v : V) (a : Addr) (G : List Row) (ps : List Int) => And5 (vs = [v, .ref a]) (rGame H G v) (G.length ≤ 160) (H a = some (.lst (ps.map V.int))) (∀ (p : Addr) (H' : Hp), Same H H' → H p = none → H' p = some (.lst ((outs G.length ps).map V.int)) → Q (.ref p) H')
theorem ok_out (F : DefAt K mg "places_outside" s_places_outside ["game", "places"]) (T : Txt mg) (D_place_marks : Dn P w K mg base "place_marks" 3 ["count", "places"] spMarks) : Dn P w K mg base "places_outside" 4 ["game", "places"] spOut := by
  have sc := sc_places_outside
  refine F.ok sc (fun vs H Q E h => ?_) (fun f cdv A outer s H vs Q E hr h => ?_)
  · obtain ⟨_, _, _, _, rfl, _⟩ := h; rfl
  obtain ⟨v, a, G, ps, rfl, hG, h160, ha, q⟩ := h
  obtain ⟨g0, gv, rfl, hg0, hgl, _⟩ := game_parts hG
  refine ⟨_, (pss_cons (ps_set (i := 2) sc.nd rfl (Or.inr rfl) (pe_dn D_place_marks hr (pa_cons (pe_callB (clLen (K := K) rfl) rfl T.b_len PySem.boot_len (pa_cons (pv 0) pa_nil)) (pa_cons (pv 1) pa_nil))))
      (pss_one (ps_ret (pe_lc (defScope s_places_outside) ["game", "places", "marks"] ["place", "marks"] 1 [2] (pi_range1 rfl T.b_range (pa_cons (pe_callB (clLen (K := K) rfl) rfl T.b_len PySem.boot_len (pa_cons (pv 0) pa_nil)) pa_nil)) (fun _ _ _ _ _ _ => (ptg_name (show List.Nodup (["place", "marks"] : List Str) by decide +kernel) rfl rfl)) (fun _ _ _ _ _ _ => (pts_one (pt_not (pt_val (pe_ix (ixL (K := K) rfl) (pv 1) (pv 0) (fun _ _ => rfl)))))) (fun _ _ _ _ _ _ => (pv 0)))))), ?_⟩
  refine ⟨_, rfl, g0, _, rfl, .inl (SqL.of hg0), _, rfl, gv.length, a, ps, rfl, by omega, ha, fun ma H1 s1 hma0 hma => ?_⟩
  rw [hgl] at hma
  refine ⟨_, rfl, g0, _, rfl, .inl (SqL.of (s1 _ _ hg0)), _, rfl, by omega, by omega, comp_rangeD (lo := 0) (n := ((gv.length : Nat) : Int).toNat) (fun i ys H2 => H2 = H1 ∧ ys = (outs i ps).map V.int) ⟨rfl, rfl⟩ (small (m := 1000) (by omega)) (fun i ys H2 _ h => ?_) (fun i ys H2 hi h => ?_) (fun ys H2 h p hp => ?_)⟩
  · obtain ⟨rfl, rfl⟩ := h
    rw [List.length_map]; exact outs_len _ _
  · obtain ⟨rfl, rfl⟩ := h
    rw [Int.toNat_natCast, hgl] at hi
    refine (rd_ixv rfl rfl (SqL.of hma) (by rw [Int.zero_add]; exact atI_i (by omega) (bm_at (by omega) (by omega))) ⟨_, rfl, ?_⟩)
    refine ite2 (fun c => ?_) (fun c => ?_)
    · refine ⟨_, rfl, rfl, ?_⟩
      unfold outs
      rw [rng_snoc, List.filter_append, List.map_append, List.filter_cons_of_pos (p := fun x => !decide (x ∈ ps)) c, Int.zero_add]; rfl
    · refine ⟨rfl, ?_⟩
      unfold outs
      rw [rng_snoc, List.filter_append, List.map_append, List.filter_cons_of_neg (p := fun x => !decide (x ∈ ps)) c]; simp
  obtain ⟨rfl, rfl⟩ := h
  rw [Int.toNat_natCast, hgl]
  exact q p _ (s1.trans (same_upd hp _)) (s1.free hp) upd_same
def spPP : Sp := fun vs H Q _ => Ex5 fun (v : V) (ga : Addr) (G : List Row) (hand : Int) (goal : List Int) => And5 (vs = [v, .int hand, .ref ga]) (rGame H G v) (GOk G) (H ga = some (.lst (goal.map V.int))) (∀ (p : Addr) (H' : Hp), Same H H' → H p = none → H' p = some (.lst ((layers G hand (fun _ => true) fun x => decide (x ∈ goal)).flatten.map V.int)) → Q (.ref p) H')
theorem ok_pp (F : DefAt K mg "pulled_places" s_pulled_places ["game", "hand", "goal"]) (T : Txt mg) (D_pulled : DnD P w K mg base "pulled" 6 ["game", "hand", "goal", "part"] [.non] spPulled) : Dn P w K mg base "pulled_places" 7 ["game", "hand", "goal"] spPP := by
  have sc := sc_pulled_places
  refine F.ok sc (fun vs H Q E h => ?_) (fun f cdv A outer s H vs Q E hr h => ?_)
  · obtain ⟨_, _, _, _, _, rfl, _⟩ := h; rfl
  obtain ⟨v, ga, G, hand, goal, rfl, hG, hok, hga, q⟩ := h
  refine ⟨_, (pss_cons (ps_set (i := 3) sc.nd rfl (Or.inl rfl) (pe_lst pa_nil))
      (pss_cons (ps_for PassesOwn.never rfl (pi_list (pe_dnD D_pulled hr (pa_cons (pv 0) (pa_cons (pv 1) (pa_cons (pv 2) pa_nil))))) (pg_name (i := 4) sc.nd rfl (Or.inl rfl))
      (pss_one (ps_expr (pe_bm PySem.F.plainAttrs_list PySem.F.slot_list_extend PySem.F.type_list_extend mt_extend (pv 3) (pa_cons (pv 4) pa_nil)))))
      (pss_one (ps_ret (pv 3))))), ?_⟩
  refine ⟨Nat.zero_le _, fun pa hpa => ?_⟩
  have s1 := same_upd hpa (.lst [])
  have hpa1 : upd H pa (.lst []) pa = some (.lst []) := upd_same
  generalize upd H pa (.lst []) = H1 at s1 hpa1 ⊢
  have hRb := run_bound (G := G) (hand := hand) (ins := fun _ => true) (G.length + 1) [] (lay0 G (fun _ => true) fun x => decide (x ∈ goal)) (LI.start _) (by simp)
  have h160 := hok.1
  refine ⟨_, rfl, _, rfl, _, rfl, v, .non, G, hand, ga, goal, _, rfl, mono_game.up s1 hG, hok, s1 _ _ hga, .inl ⟨rfl, rfl⟩, fun la H2 s2 hl => ?_⟩
  have hfl : (layers G hand (fun _ => true) fun x => decide (x ∈ goal)).flatten.length ≤ G.length := hRb.2
  generalize layers G hand (fun _ => true) (fun x => decide (x ∈ goal)) = R at hl hfl q
  obtain ⟨_, vvs, e0, hv, pvv⟩ := (mono_lst (mono_lst mono_int)).up (newp_same _ _) hl
  cases e0
  have hpa2 := s2 _ _ hpa1
  have hnew : ∀ (i : Nat) (ca : Addr), vvs[i]? = some (.ref ca) → ca ≠ pa := fun i ca hi e => by
    obtain ⟨_, vv2, e1, hv1, pv1⟩ := hl
    cases e1
    have hvv : vv2 = vvs := by
      unfold newp at hv1
      split at hv1
      · rw [hv] at hv1; injection hv1 with z; injection z with z; exact z.symm
      · cases hv1
    subst hvv
    obtain ⟨L, _, rx⟩ := Paired.ta pv1 hi
    obtain ⟨cb, ec, hcb⟩ := rLst_ints.mp rx
    cases ec
    rw [e] at hcb
    unfold newp at hcb
    rw [hpa1] at hcb
    cases hcb
  have s02 := s1.trans s2
  have nlp : la ≠ pa := fun z => by
    obtain ⟨_, vv2, e1, hv1, _⟩ := hl
    cases e1
    rw [z] at hv1
    unfold newp at hv1
    rw [hpa1] at hv1
    cases hv1
  have hvl := pvv.length
  refine ⟨la, rfl, ⟨_, SqL.of hv⟩, for_list (K := K) (a := la) (xs := vvs) (fun i σ H3 => ∃ y : Option V, And4 (σ = [some v, some (.int hand), some (.ref ga), some (.ref pa), y]) (Same H H3) ((∀ b o, b ≠ pa → H2 b = some o → H3 b = some o)) (H3 pa = some (.lst ((R.take i).flatten.map V.int))))
    ⟨_, rfl, s02, fun _ _ _ z => z, hpa2⟩ (fun i σ H3 _ h => ?_) (fun i x σ H3 hi h => ?_) (fun σ H3 h => ?_)⟩
  · obtain ⟨_, _, _, kp, _⟩ := h
    exact SqL.of (kp _ _ nlp hv)
  · obtain ⟨y, rfl, s3, kp, h3⟩ := h
    have hil := (List.getElem?_eq_some_iff.mp hi).1
    obtain ⟨L, hL, rx⟩ := Paired.ta pvv hi
    obtain ⟨ca, rfl, hca⟩ := rLst_ints.mp rx
    have ncp := hnew i ca hi
    have hca3 := kp _ _ ncp hca
    have hsub : (R.take i).flatten.length + L.length ≤ R.flatten.length := by
      have e : R = R.take i ++ L :: R.drop (i + 1) := by
        have hjl := List.getElem?_eq_some_iff.mp hL
        rw [← hjl.2, ← List.drop_eq_getElem_cons hjl.1, List.take_append_drop]
      conv => rhs; rw [e]
      rw [List.flatten_append, List.flatten_cons, List.length_append, List.length_append]; omega
    refine ⟨_, rfl, .inl ⟨rfl, _, SqL.of h3⟩, _, rfl, pa, ca, _, _, rfl, rfl, h3, hca3, small (m := 1000) (by rw [List.length_map, List.length_map]; omega), ?_⟩
    refine ⟨_, rfl, s3.put hpa _, fun b o hb e => by rw [upd_ne hb]; exact kp b o hb e, ?_⟩
    rw [upd_same, List.take_add_one, hL, List.flatten_append, List.map_append]
    simp
  · obtain ⟨y, rfl, s3, kp, h3⟩ := h
    rw [← hvl, List.take_length] at h3
    exact ⟨_, rfl, q pa H3 s3 hpa h3⟩
def keepR (G : List Row) (hand : Int) (some_ : List Int) : List (List Int) := layers G (1 - hand) (fun _ => true) fun x => decide (x ∈ outs G.length some_)
def spKept : Sp := fun vs H Q _ => Ex5 fun (v : V) (a : Addr) (G : List Row) (hand : Int) (ps : List Int) => And5 (vs = [v, .int hand, .ref a]) (rGame H G v) (GOk G) (H a = some (.lst (ps.map V.int))) (∀ (p : Addr) (H' : Hp), Same H H' → H p = none → H' p = some (.lst ((rest G (keepR G hand ps)).map V.int)) → Q (.ref p) H')
theorem ok_kept (F : DefAt K mg "kept" s_kept ["game", "hand", "some"]) (T : Txt mg) (D_places_outside : Dn P w K mg base "places_outside" 4 ["game", "places"] spOut) (D_pulled_places : Dn P w K mg base "pulled_places" 7 ["game", "hand", "goal"] spPP) : Dn P w K mg base "kept" 8 ["game", "hand", "some"] spKept := by
  have sc := sc_kept
  refine F.ok sc (fun vs H Q E h => ?_) (fun f cdv A outer s H vs Q E hr h => ?_)
  · obtain ⟨_, _, _, _, _, rfl, _⟩ := h; rfl
  obtain ⟨v, a, G, hand, ps, rfl, hG, hok, ha, q⟩ := h
  refine ⟨_, (pss_one (ps_ret (pe_dn D_places_outside hr (pa_cons (pv 0) (pa_cons (pe_dn D_pulled_places hr (pa_cons (pv 0) (pa_cons (pe_op op_sub pe_int (pv 1)) (pa_cons (pe_dn D_places_outside hr (pa_cons (pv 0) (pa_cons (pv 2) pa_nil))) pa_nil)))) pa_nil))))), ?_⟩
  refine ⟨_, rfl, _, rfl, _, rfl, _, _, rfl, rfl, _, rfl, _, rfl, v, a, G, ps, rfl, hG, hok.1, ha, fun oa H1 s1 _ hoa => ?_⟩
  refine ⟨v, oa, G, 1 - hand, outs G.length ps, rfl, mono_game.up s1 hG, hok, hoa, fun pa H2 s2 _ hpa => ?_⟩
  exact ⟨v, pa, G, _, rfl, mono_game.up (s1.trans s2) hG, hok.1, hpa, fun ka H3 s3 hka hk => q ka H3 (s1.trans (s2.trans s3)) ((s1.trans s2).free hka) hk⟩
def spKW : Sp := fun vs H Q _ => Ex5 fun (v : V) (a : Addr) (G : List Row) (hand : Int) (ps : List Int) => And6 (vs = [v, .int hand, .ref a]) (rGame H G v) (GOk G) (NE G) (H a = some (.lst (ps.map V.int))) (∀ (p : Addr) (H' : Hp), Same H H' → H p = none → H' p = some (.lst (om G.length (kwX G hand (rest G (keepR G hand ps))))) → Q (.ref p) H')
theorem ok_kw (F : DefAt K mg "keep_ways" s_keep_ways ["game", "hand", "some"]) (T : Txt mg) (D_place_marks : Dn P w K mg base "place_marks" 3 ["count", "places"] spMarks) (D_kept : Dn P w K mg base "kept" 8 ["game", "hand", "some"] spKept) (D_least_way : Dn P w K mg base "least_way" 1 ["ways", "marks"] spLeast) : Dn P w K mg base "keep_ways" 9 ["game", "hand", "some"] spKW := by
  have sc := sc_keep_ways
  refine F.ok sc (fun vs H Q E h => ?_) (fun f cdv A outer s H vs Q E hr h => ?_)
  · obtain ⟨_, _, _, _, _, rfl, _⟩ := h; rfl
  obtain ⟨v, a, G, hand, ps, rfl, hG, hok, hne, ha, q⟩ := h
  obtain ⟨g0, gv, rfl, hg0, hgl, hrow⟩ := game_parts hG
  have h160 := hok.1
  refine ⟨_, (pss_cons (ps_set (i := 3) sc.nd rfl (Or.inl rfl) (pe_dn D_place_marks hr (pa_cons (pe_callB (clLen (K := K) rfl) rfl T.b_len PySem.boot_len (pa_cons (pv 0) pa_nil)) (pa_cons (pe_dn D_kept hr (pa_cons (pv 0) (pa_cons (pv 1) (pa_cons (pv 2) pa_nil)))) pa_nil))))
      (pss_cons (ps_set (i := 4) sc.nd rfl (Or.inl rfl) (pe_op op_rep (pe_lst (pa_cons pe_non pa_nil)) (pe_callB (clLen (K := K) rfl) rfl T.b_len PySem.boot_len (pa_cons (pv 0) pa_nil))))
      (pss_cons (ps_for PassesOwn.never rfl (pi_enum (K := K) rfl rfl T.b_enumerate (pa_cons (pv 0) pa_nil)) (pg_tup rfl (pgs_cons (pg_name (i := 5) sc.nd rfl (Or.inl rfl)) (pgs_cons (pg_name (i := 6) sc.nd rfl (Or.inl rfl)) pgs_nil)))
      (pss_one (ps_if (PW.pt (pw_and (pt_val (pe_ix (ixL (K := K) rfl) (pv 3) (pv 5) (fun _ _ => rfl))) (pw_and1 (pt_cmpR op_eq (pe_ix (ixT (K := K) rfl) (pv 6) pe_int (fun _ _ => rfl)) (pv 1) (nomark _)))))
      (pss_one (ps_asg (pe_dn D_least_way hr (pa_cons (pe_ix (ixT (K := K) rfl) (pv 6) pe_int (fun _ _ => rfl)) (pa_cons (pv 3) pa_nil))) (pg_sub (pv 4) (pv 5) set_list)))
      pss_nil)))
      (pss_one (ps_ret (pv 4)))))), ?_⟩
  refine ⟨_, rfl, g0, _, rfl, .inl (SqL.of hg0), _, rfl, _, rfl, _, rfl, _, a, G, hand, ps, rfl, hG, hok, ha, fun ka H1 s1 _ hka => ?_⟩
  have hL : Lay G (1 - hand) (fun _ => true) _ (keepR G hand ps) := layers_lay
  generalize hSS : rest G (keepR G hand ps) = S at hka q
  have hSown : ∀ p, p ∈ S → hd G p = hand → ∃ w ∈ wy G p, w ∈ S := fun p hp ho => by
    rw [← hSS] at hp ⊢
    exact rest_oth hL hok.wok hne hp (by omega)
  refine ⟨gv.length, ka, S, rfl, by omega, hka, fun ma H2 s2 hma0 hma => ?_⟩
  rw [hgl] at hma
  have s02 := s1.trans s2
  refine ⟨(by show 1 ≤ sizeLine; decide), fun n1 hn1 => ?_⟩
  have s3 := same_upd hn1 (.lst [V.non])
  refine ⟨_, rfl, g0, _, rfl, .inl (SqL.of ((s02.trans s3) _ _ hg0)), n1, _, _, rfl, rfl, upd_same, by omega, by omega, small (m := 1000) (by simp; omega), fun ra hra => ?_⟩
  have s4 := (s02.trans s3).trans (same_upd hra (.lst (List.replicate ((gv.length : Nat) : Int).toNat [V.non]).flatten))
  have hra0 : H ra = none := (s02.trans s3).free hra
  have hra1 : upd (upd H2 n1 (.lst [V.non])) ra (.lst (List.replicate ((gv.length : Nat) : Int).toNat [V.non]).flatten) ra = some (.lst (om G.length fun p => if p < (0 : Nat) then kwX G hand S p else none)) := by
    rw [upd_same, Int.toNat_natCast, om_rep, hgl]
    congr 2
  have hma4 := (s3.trans (same_upd hra (.lst (List.replicate ((gv.length : Nat) : Int).toNat [V.non]).flatten))) _ _ hma
  have nmr : ma ≠ ra := fun z => by
    have := s3 _ _ hma
    rw [z, hra] at this; cases this
  generalize upd (upd H2 n1 (.lst [V.non])) ra (.lst (List.replicate ((gv.length : Nat) : Int).toNat [V.non]).flatten) = H4 at s4 hra1 hma4 ⊢
  refine ⟨_, rfl, g0, rfl, ⟨_, SqL.of (s4 _ _ hg0)⟩, for_enum (K := K) (a := g0) (xs := gv) (fun i σ H5 => Ex2 fun (y1 : Option V) (y2 : Option V) => And4 (σ = [some (.ref g0), some (.int hand), some (.ref a), some (.ref ma), some (.ref ra), y1, y2]) (Same H H5) (H5 ma = some (.lst (bm G.length fun x => decide (x ∈ S)))) (H5 ra = some (.lst (om G.length fun p => if p < (i : Nat) then kwX G hand S p else none))))
    ⟨_, _, rfl, s4, hma4, hra1⟩ (fun i σ H5 _ h => ?_) (fun i x σ H5 Tt hi h hT => ?_) (fun σ H5 h => ?_)⟩
  · obtain ⟨_, _, _, s5, _⟩ := h
    exact SqL.of (s5 _ _ hg0)
  · obtain ⟨y1, y2, rfl, s5, hm5, hr5⟩ := h
    have hil : i < G.length := by have := (List.getElem?_eq_some_iff.mp hi).1; omega
    obtain ⟨row, hrw⟩ : ∃ row, G[i]? = some row := ⟨G[i], by simp⟩
    obtain ⟨t, wy0, p1, p2, p3⟩ := hrow i row hrw
    rw [hi] at p1; cases p1
    obtain ⟨w1, w2, w3⟩ := hok.2 row (List.mem_of_getElem? hrw)
    have hrw' : G[((i : Nat) : Int).toNat]? = some row := by rw [Int.toNat_natCast]; exact hrw
    have ehd := hd_at hrw'
    have ewy := wy_at hrw'
    have sT := same_upd hT (.tup [.int (i : Nat), .ref t])
    refine ⟨Tt, _, rfl, SqT.of upd_same, rfl, _, _, rfl, _, _, rfl, rfl, ?_⟩
    have s6 := s5.trans sT
    have hm6 := sT _ _ hm5
    have hr6 := sT _ _ hr5
    generalize upd H5 Tt (.tup [.int (i : Nat), .ref t]) = H6 at sT s6 hm6 hr6 ⊢
    have hp : 0 ≤ ((i : Nat) : Int) ∧ ((i : Nat) : Int) < G.length := by omega
    have skip : kwX G hand S ((i : Nat) : Int) = none → om G.length (fun p => if p < (i : Nat) then kwX G hand S p else none) = om G.length (fun p => if p < ((i + 1 : Nat) : Int) then kwX G hand S p else none) := fun e => om_congr fun p p0 p1 => by
      by_cases c : p < (i : Nat)
      · rw [if_pos c, if_pos (by omega)]
      · by_cases c2 : p = (i : Nat)
        · subst c2; rw [if_neg c, if_pos (by omega), e]
        · rw [if_neg c, if_neg (by omega)]
    refine (rd_ixv rfl rfl (SqL.of hm6) (atI_i hp.1 (bm_at hp.1 hp.2)) ⟨_, rfl, ?_⟩)
    refine ite2 (fun c => ?_) (fun c => ?_)
    · have hS : ((i : Nat) : Int) ∈ S := of_decide_eq_true c
      refine (rd_tixc rfl (SqT.of (s6 _ _ p2)) (atI_nat (j := 0) rfl) ⟨_, rfl, rfl, _, rfl, ?_⟩)
      refine ite2 (fun c2 => ?_) (fun c2 => ?_)
      · have hh : hd G ((i : Nat) : Int) = hand := by have := of_decide_eq_true c2; injection this with e; rw [ehd]; exact e
        obtain ⟨z, e1, e2, _, _⟩ := kw_some hS hh (hSown _ hS hh)
        rw [ewy] at e1
        refine (rd_tixc rfl (SqT.of (s6 _ _ p2)) (atI_nat (j := 2) rfl) ⟨_, rfl, wy0, ma, row.2.2, G.length, _, z, rfl, s6 _ _ p3, hm6, w1, w2, w3, e1, fun H7 s7 => ?_⟩)
        have hr7 := s7 _ _ hr6
        refine ⟨_, rfl, _, rfl, ra, _, _, i, rfl, rfl, hr7, ?_, ?_⟩
        · unfold ixN; rw [om_len, if_pos hp.1, if_pos hp.2]; simp
        · refine ⟨_, _, rfl, (s6.trans s7).put hra0 _, by rw [upd_ne nmr]; exact s7 _ _ hm6, ?_⟩
          rw [upd_same]
          have hset := om_set (n := G.length) (f := fun p => if p < (i : Nat) then kwX G hand S p else none) (v := z) hp.1 hp.2
          rw [Int.toNat_natCast] at hset
          rw [hset]
          congr 2
          refine om_congr fun p p0 p1 => ?_
          by_cases c3 : p = (i : Nat)
          · subst c3; rw [if_pos rfl, if_pos (by omega), e2]
          · rw [if_neg c3]
            by_cases c4 : p < (i : Nat)
            · rw [if_pos c4, if_pos (by omega)]
            · rw [if_neg c4, if_neg (by omega)]
      · have hh : ¬ hd G ((i : Nat) : Int) = hand := fun e => c2 (decide_eq_true (by rw [← e, ehd]))
        refine ⟨_, _, rfl, s6, hm6, ?_⟩
        rw [hr6, skip (kw_none fun z => hh z.2)]
    · have hS : ((i : Nat) : Int) ∉ S := fun z => c (decide_eq_true z)
      refine iteF ?_
      refine ⟨_, _, rfl, s6, hm6, ?_⟩
      rw [hr6, skip (kw_none fun z => hS z.1)]
  · obtain ⟨y1, y2, rfl, s5, hm5, hr5⟩ := h
    refine ⟨_, rfl, q ra H5 s5 hra0 ?_⟩
    rw [hr5, hgl]
    congr 2
    exact om_congr fun p p0 p1 => if_pos (by omega)
def spReached : Sp := fun vs H Q _ => Ex4 fun (v : V) (ga : Addr) (G : List Row) (goal : List Int) => And6 (vs = [v, .ref ga]) (rGame H G v) (GOk G) (NE G) (H ga = some (.lst (goal.map V.int))) (∀ (t ha wa : Addr) (X : Int → Option Int) (R : List (List Int)) (H' : Hp), Same H H' → R = (layers G 0 (fun _ => true) fun x => decide (x ∈ goal)) → H' t = some (.tup [.ref ha, .ref wa]) → H' ha = some (.lst ((im G.length fun p => if decide (p ∈ R.flatten) then 0 else 1).map V.int)) → H' wa = some (.lst (om G.length (wayB G R X))) → PR G R (fun k p => lv R (k + 1) p ∧ hd G p = 0) X → Q (.ref t) H')
theorem ok_reached (F : DefAt K mg "reached" s_reached ["game", "goal"]) (T : Txt mg) (D_place_marks : Dn P w K mg base "place_marks" 3 ["count", "places"] spMarks) (D_pulled_places : Dn P w K mg base "pulled_places" 7 ["game", "hand", "goal"] spPP) (D_pull_ways : DnD P w K mg base "pull_ways" 7 ["game", "hand", "goal", "part"] [.non] spPW) (D_keep_ways : Dn P w K mg base "keep_ways" 9 ["game", "hand", "some"] spKW) (D_places_outside : Dn P w K mg base "places_outside" 4 ["game", "places"] spOut) : Dn P w K mg base "reached" 10 ["game", "goal"] spReached := by
  have sc := sc_reached
  refine F.ok sc (fun vs H Q E h => ?_) (fun f cdv A outer s H vs Q E hr h => ?_)
  · obtain ⟨_, _, _, _, rfl, _⟩ := h; rfl
  obtain ⟨v, ga, G, goal, rfl, hG, hok, hne, hga, q⟩ := h
  obtain ⟨g0, gv, rfl, hg0, hgl, hrow⟩ := game_parts hG
  have h160 := hok.1
  refine ⟨_, (pss_cons (ps_set (i := 2) sc.nd rfl (Or.inl rfl) (pe_dn D_place_marks hr (pa_cons (pe_callB (clLen (K := K) rfl) rfl T.b_len PySem.boot_len (pa_cons (pv 0) pa_nil)) (pa_cons (pe_dn D_pulled_places hr (pa_cons (pv 0) (pa_cons pe_int (pa_cons (pv 1) pa_nil)))) pa_nil))))
      (pss_cons (ps_lc (i := 3) (defScope s_reached) ["game", "goal", "marks", "hands", "pulls", "keeps", "ways"] ["mark"] 1 [] sc.nd rfl rfl (pi_list (pv 2)) (fun _ _ _ _ _ _ => (ptg_name (show List.Nodup (["mark"] : List Str) by decide +kernel) rfl rfl)) (fun _ _ _ _ _ _ => pts_nil) (fun _ _ _ _ _ _ => (pe_ifExp (pt_val (pv 0)) pe_int pe_int)))
      (pss_cons (ps_set (i := 4) sc.nd rfl (Or.inl rfl) (pe_dnD D_pull_ways hr (pa_cons (pv 0) (pa_cons pe_int (pa_cons (pv 1) pa_nil)))))
      (pss_cons (ps_set (i := 5) sc.nd rfl (Or.inl rfl) (pe_dn D_keep_ways hr (pa_cons (pv 0) (pa_cons pe_int (pa_cons (pe_dn D_places_outside hr (pa_cons (pv 0) (pa_cons (pv 1) pa_nil))) pa_nil)))))
      (pss_cons (ps_lc (i := 6) (defScope s_reached) ["game", "goal", "marks", "hands", "pulls", "keeps", "ways"] ["pull", "keep"] 2 [] sc.nd rfl rfl (pi_zip (K := K) rfl rfl T.b_zip (pa_cons (pv 4) (pa_cons (pv 5) pa_nil))) (fun _ _ _ _ _ _ => (ptg2 (K := K) rfl rfl (show List.Nodup (["pull", "keep"] : List Str) by decide +kernel) rfl rfl rfl rfl)) (fun _ _ _ _ _ _ => pts_nil) (fun _ _ _ _ _ _ => (pe_ifExp (pt_cmp (pc_isN (pv 0))) (pv 1) (pv 0))))
      (pss_one (ps_ret (pe_tup (pa_cons (pv 3) (pa_cons (pv 6) pa_nil)))))))))), ?_⟩
  refine ⟨_, rfl, g0, _, rfl, .inl (SqL.of hg0), _, rfl, _, rfl, _, ga, G, 0, goal, rfl, hG, hok, hga, fun pa H1 s1 _ hpa => ?_⟩
  have ekR : keepR G 1 (outs G.length goal) = layers G 0 (fun _ => true) fun x => decide (x ∈ goal) := by
    unfold keepR
    exact layers_cw (hand := 0) fun x h0 h1 => outs_outs h0 h1
  obtain ⟨R, hR⟩ : ∃ R, R = layers G 0 (fun _ => true) fun x => decide (x ∈ goal) := ⟨_, rfl⟩
  rw [← hR] at hpa ekR
  refine ⟨gv.length, pa, R.flatten, rfl, by omega, hpa, fun ma H2 s2 _ hma => ?_⟩
  rw [hgl] at hma
  have s02 := s1.trans s2
  refine ⟨_, rfl, ma, rfl, ⟨_, SqL.of hma⟩, comp_listD (K := K) (a := ma) (xs := bm G.length fun x => decide (x ∈ R.flatten)) (fun i ys H3 => H3 = H2 ∧ ys = (im i fun p => if decide (p ∈ R.flatten) then 0 else 1).map V.int) ⟨rfl, rfl⟩ (small (m := 1000) (by rw [bm_len]; omega)) (fun i ys H3 hi h => ?_) (fun i x ys H3 hi h => ?_) (fun ys H3 h ha hha => ?_)⟩
  · obtain ⟨rfl, rfl⟩ := h
    exact ⟨SqL.of hma, by rw [List.length_map, im_len]; exact Nat.le_refl _⟩
  · obtain ⟨rfl, rfl⟩ := h
    have hil := (List.getElem?_eq_some_iff.mp hi).1
    rw [bm_len] at hil
    have ex := bm_at (n := G.length) (f := fun x => decide (x ∈ R.flatten)) (z := ((i : Nat) : Int)) (by omega) (by omega)
    rw [Int.toNat_natCast, hi] at ex
    cases ex
    refine comp_yes ?_
    refine ⟨_, rfl, _, rfl, ?_⟩
    refine ite2 (fun c => ?_) (fun c => ?_)
    · refine ⟨rfl, ?_⟩
      rw [im_snoc, List.map_append, if_pos c]; rfl
    · refine ⟨rfl, ?_⟩
      rw [im_snoc, List.map_append, if_neg c]; rfl
  obtain ⟨rfl, rfl⟩ := h
  rw [bm_len]
  have s3 := s02.trans (same_upd hha (.lst ((im G.length fun p => if decide (p ∈ R.flatten) then 0 else 1).map V.int)))
  have hha3 : upd H3 ha (.lst ((im G.length fun p => if decide (p ∈ R.flatten) then 0 else 1).map V.int)) ha = some (.lst ((im G.length fun p => if decide (p ∈ R.flatten) then 0 else 1).map V.int)) := upd_same
  generalize upd H3 ha (.lst ((im G.length fun p => if decide (p ∈ R.flatten) then 0 else 1).map V.int)) = H4 at s3 hha3 ⊢
  refine ⟨_, rfl, _, rfl, _, .non, G, 0, ga, goal, _, rfl, mono_game.up s3 hG, hok, s3 _ _ hga, .inl ⟨rfl, rfl⟩, fun xa X H5 s5 _ hxa hX => ?_⟩
  rw [← hR] at hX
  have s05 := s3.trans s5
  refine ⟨_, rfl, _, rfl, _, rfl, _, ga, G, goal, rfl, mono_game.up s05 hG, h160, s05 _ _ hga, fun oa H6 s6 _ hoa => ?_⟩
  refine ⟨_, oa, G, 1, outs G.length goal, rfl, mono_game.up (s05.trans s6) hG, hok, hne, hoa, fun ka H7 s7 _ hka => ?_⟩
  rw [ekR] at hka
  have hxa7 := (s6.trans s7) _ _ hxa
  have hha7 := (s5.trans (s6.trans s7)) _ _ hha3
  have s07 := s05.trans (s6.trans s7)
  refine ⟨_, rfl, _, rfl, xa, ka, rfl, ⟨_, SqL.of hxa7⟩, ⟨_, SqL.of hka⟩, comp_zipD (K := K) (a := xa) (b := ka) (xs := om G.length X) (zs := om G.length (kwX G 1 (rest G R))) G.length (by rw [om_len]; exact Nat.le_refl _) (by rw [om_len]; exact Nat.le_refl _) (.inl (om_len _ _).symm) (fun i ys H8 => Same H7 H8 ∧ ys = om i (wayB G R X)) ⟨Same.refl _, rfl⟩ (small (m := 1000) (by omega)) (fun i ys H8 hi h => ?_) (fun i x z ys H8 Tt hin hi hi2 h hT => ?_) (fun ys H8 h wa hwa => ?_)⟩
  · obtain ⟨s8, rfl⟩ := h
    exact ⟨SqL.of (s8 _ _ hxa7), SqL.of (s8 _ _ hka), by rw [om_len]; exact Nat.le_refl _⟩
  · obtain ⟨s8, rfl⟩ := h
    have ex := om_at (n := G.length) (f := X) (z := ((i : Nat) : Int)) (by omega) (by omega)
    rw [Int.toNat_natCast, hi] at ex
    cases ex
    have ez := om_at (n := G.length) (f := kwX G 1 (rest G R)) (z := ((i : Nat) : Int)) (by omega) (by omega)
    rw [Int.toNat_natCast, hi2] at ez
    cases ez
    refine comp_yesT (SqT.of upd_same) rfl ?_
    have s9 := s8.trans (same_upd hT (.tup [oW (X ((i : Nat) : Int)), oW (kwX G 1 (rest G R) ((i : Nat) : Int))]))
    rw [om_snoc]
    unfold wayB
    cases eX : X ((i : Nat) : Int) with
    | none =>
      rw [eX] at s9
      refine ⟨_, rfl, _, rfl, ?_⟩
      refine iteT ?_
      exact ⟨_, rfl, s9, rfl⟩
    | some u =>
      rw [eX] at s9
      refine ⟨_, rfl, _, rfl, ?_⟩
      refine iteF ?_
      exact ⟨_, rfl, s9, rfl⟩
  obtain ⟨s8, rfl⟩ := h
  have s9 := s8.trans (same_upd hwa (.lst (om G.length (wayB G R X))))
  have hwa9 : upd H8 wa (.lst (om G.length (wayB G R X))) wa = some (.lst (om G.length (wayB G R X))) := upd_same
  generalize upd H8 wa (.lst (om G.length (wayB G R X))) = H9 at s9 hwa9 ⊢
  refine ⟨_, rfl, _, rfl, (by show 2 ≤ sizeLine; decide), fun t ht => ?_⟩
  exact q t ha wa X R _ (s07.trans (s9.trans (same_upd ht _))) hR upd_same (same_upd ht _ _ _ (s9 _ _ hha7)) (same_upd ht _ _ _ hwa9) hX
def spCell (K : PySem.W.Frag) : Sp := fun vs H Q _ => Ex3 fun (a : Addr) (ns : List Int) (k : Int) => And6 (vs = [.ref a, .int k]) (SqL K H a (ns.map V.int)) (ns.length ≤ 63) (0 ≤ k) (k ≤ 10000) (∀ m : Int, 0 ≤ m → m < 2305843009213693951 → Q (.int m) H)
theorem ok_cell (F : DefAt K mg "_law_cell_at" s_law_cell_at ["_law_script", "_law_k"]) (T : Txt mg) : Dn P w K mg base "_law_cell_at" 1 ["_law_script", "_law_k"] (spCell K) := by
  have sc := sc_law_cell_at
  refine F.ok sc (fun vs H Q E h => ?_) (fun f cdv A outer s H vs Q E hr h => ?_)
  · obtain ⟨a, ns, k, rfl, _⟩ := h; rfl
  obtain ⟨a, ns, k, rfl, hS, h63, h0, h1, q⟩ := h
  refine ⟨_, (pss_cons (ps_if (pt_cmpR op_eq (pe_callB (clLen (K := K) rfl) rfl T.b_len PySem.boot_len (pa_cons (pv 0) pa_nil)) pe_int (nomark _))
      (pss_one (ps_ret (pe_op op_mod (pe_op op_add (pe_op op_mul (pe_op op_mul (pv 1) (pv 1)) pe_int) (pe_op op_mul pe_int (pv 1))) pe_int)))
      pss_nil)
      (pss_cons (ps_set (i := 2) sc.nd rfl (Or.inl rfl) (pe_op op_mod (pe_ix (ixL (K := K) rfl) (pv 0) (pe_op op_mod (pv 1) (pe_callB (clLen (K := K) rfl) rfl T.b_len PySem.boot_len (pa_cons (pv 0) pa_nil))) (fun _ _ => rfl)) pe_int))
      (pss_cons (ps_if (pt_cmpR op_lt (pv 1) (pe_callB (clLen (K := K) rfl) rfl T.b_len PySem.boot_len (pa_cons (pv 0) pa_nil)) (nomark _))
      (pss_one (ps_ret (pv 2)))
      pss_nil)
      (pss_one (ps_ret (pe_op op_mod (pe_op op_add (pe_op op_mul (pv 2) pe_int) (pe_op op_mul (pe_op op_mul (pv 1) (pv 1)) pe_int)) pe_int)))))), ?_⟩
  have hl : (ns.map V.int).length = ns.length := List.length_map _
  refine ⟨_, rfl, a, _, rfl, .inl hS, rfl, _, rfl, ?_⟩
  refine ite2 (fun c => ?_) (fun c => ?_)
  · refine ⟨_, rfl, _, rfl, _, _, rfl, rfl, .inl ⟨by omega, by omega⟩, _, _, rfl, rfl, .inr ⟨by decide, by decide⟩, _, rfl, _, _, rfl, rfl, .inl ⟨by decide, by decide⟩, _, _, rfl, rfl, _, _, rfl, rfl, (show (0 : Int) < 2147483647 by decide), ?_⟩
    have e1 := Int.emod_nonneg (k * k * 40692 + 7 * k) (show (2147483647 : Int) ≠ 0 by decide)
    have e2 := Int.emod_lt_of_pos (k * k * 40692 + 7 * k) (show (0 : Int) < 2147483647 by decide)
    exact q _ e1 (by omega)
  · have c' : 0 < ns.length := by
      rcases Nat.eq_zero_or_pos ns.length with h | h
      · exact absurd (decide_eq_true (by rw [hl, h]; rfl)) c
      · exact h
    have b1 := Int.emod_nonneg k (show (ns.length : Int) ≠ 0 by omega)
    have b2 := Int.emod_lt_of_pos k (show (0 : Int) < ns.length by omega)
    refine ⟨_, rfl, _, rfl, _, rfl, a, _, rfl, .inl hS, _, _, rfl, rfl, (by rw [hl]; omega), a, _, _, _, rfl, rfl, hS, (by rw [hl]; exact atI_ints b1 b2), _, _, rfl, rfl, (show (0 : Int) < 2305843009213693951 by decide), ?_⟩
    have e1 := Int.emod_nonneg (ns.getD (k % (ns.length : Int)).toNat 0) (show (2305843009213693951 : Int) ≠ 0 by decide)
    have e2 := Int.emod_lt_of_pos (ns.getD (k % (ns.length : Int)).toNat 0) (show (0 : Int) < 2305843009213693951 by decide)
    refine ⟨_, rfl, _, rfl, a, _, rfl, .inl hS, _, _, rfl, rfl, _, rfl, ?_⟩
    refine ite2 (fun c => ?_) (fun c => ?_)
    · exact ⟨_, rfl, q _ e1 e2⟩
    · refine ⟨_, rfl, _, _, rfl, rfl, .inr ⟨by decide, by decide⟩, _, rfl, _, rfl, _, _, rfl, rfl, .inl ⟨by omega, by omega⟩, _, _, rfl, rfl, .inr ⟨by decide, by decide⟩, _, _, rfl, rfl, _, _, rfl, rfl, (show (0 : Int) < 2305843009213693951 by decide), ?_⟩
      exact q _ (Int.emod_nonneg _ (by decide)) (Int.emod_lt_of_pos _ (by decide))
def spMany (K : PySem.W.Frag) : Sp := fun vs H Q _ => Ex2 fun (a : Addr) (ns : List Int) => And4 (vs = [.ref a]) (SqL K H a (ns.map V.int)) (ns.length ≤ 63) (∀ m : Int, 0 ≤ m → m ≤ 100 → Q (.int m) H)
theorem ok_many (F : DefAt K mg "_law_many" s_law_many ["_law_script"]) (T : Txt mg) (D_law_cell_at : Dn P w K mg base "_law_cell_at" 1 ["_law_script", "_law_k"] (spCell K)) : Dn P w K mg base "_law_many" 2 ["_law_script"] (spMany K) := by
  have sc := sc_law_many
  refine F.ok sc (fun vs H Q E h => ?_) (fun f cdv A outer s H vs Q E hr h => ?_)
  · obtain ⟨a, ns, rfl, _⟩ := h; rfl
  obtain ⟨a, ns, rfl, hS, h63, q⟩ := h
  refine ⟨_, (pss_cons (ps_set (i := 1) sc.nd rfl (Or.inl rfl) (pe_dn D_law_cell_at hr (pa_cons (pv 0) (pa_cons pe_int pa_nil))))
      (pss_cons (ps_if (pt_cmpR op_eq (pe_op op_mod (pv 1) pe_int) pe_int (nomark _))
      (pss_one (ps_ret (pe_op op_add pe_int (pe_op op_mod (pe_op op_fdiv (pv 1) pe_int) pe_int))))
      pss_nil)
      (pss_cons (ps_if (pt_cmpR op_lt (pe_op op_mod (pv 1) pe_int) pe_int (nomark _))
      (pss_one (ps_ret (pe_callB (call_min2 rfl) rfl T.b_min PyProof.Rows.boot_min (pa_cons pe_int (pa_cons (pe_op op_fdiv (pe_callB (clLen (K := K) rfl) rfl T.b_len PySem.boot_len (pa_cons (pv 0) pa_nil)) pe_int) pa_nil)))))
      pss_nil)
      (pss_one (ps_ret (pe_op op_mod (pe_op op_fdiv (pv 1) pe_int) pe_int)))))), ?_⟩
  have hl : (ns.map V.int).length = ns.length := List.length_map _
  refine ⟨_, rfl, a, ns, 0, rfl, hS, h63, by decide, by decide, fun m hm0 hm1 => ?_⟩
  refine ⟨_, rfl, _, _, rfl, rfl, (show (0 : Int) < 12 by decide), rfl, _, rfl, ?_⟩
  refine ite2 (fun c => ?_) (fun c => ?_)
  · refine ⟨_, rfl, _, _, rfl, rfl, ⟨by decide, by decide⟩, _, _, rfl, rfl, (show (0 : Int) < 100 by decide), _, _, rfl, rfl, ?_⟩
    have := Int.emod_nonneg (m / 12) (show (100 : Int) ≠ 0 by decide)
    have := Int.emod_lt_of_pos (m / 12) (show (0 : Int) < 100 by decide)
    exact q _ (by omega) (by omega)
  · refine ⟨_, rfl, _, _, rfl, rfl, (show (0 : Int) < 12 by decide), _, _, rfl, rfl, _, rfl, ?_⟩
    refine ite2 (fun c => ?_) (fun c => ?_)
    · refine ⟨_, rfl, a, _, rfl, .inl hS, _, _, rfl, rfl, ⟨by decide, by decide⟩, _, _, rfl, ?_⟩
      rw [hl]
      refine q _ ?_ ?_ <;> (repeat' split) <;> omega
    · refine ⟨_, rfl, _, _, rfl, rfl, ⟨by decide, by decide⟩, _, _, rfl, rfl, (show (0 : Int) < 17 by decide), ?_⟩
      have := Int.emod_nonneg (m / 12) (show (17 : Int) ≠ 0 by decide)
      have := Int.emod_lt_of_pos (m / 12) (show (0 : Int) < 17 by decide)
      exact q _ (by omega) (by omega)
def InR (n : Int) (ws : List Int) : Prop := ∀ x ∈ ws, 0 ≤ x ∧ x < n
theorem cut_ints (ws : List Int) (a b : Option Int) : ∃ cs : List Int, cutV (ws.map V.int) a b = cs.map V.int ∧ (∀ x ∈ cs, x ∈ ws) ∧ cs.length ≤ ws.length := by
  unfold cutV
  refine ⟨(ws.drop _).take _, by rw [List.map_take, List.map_drop], fun x hx => List.mem_of_mem_drop (List.mem_of_mem_take hx), ?_⟩
  rw [List.length_take, List.length_drop]; omega
def spWays : Sp := fun vs H Q _ => Ex5 fun (one : Int) (other : Int) (k : Int) (n : Int) (near : Bool) => And7 (vs = [.int one, .int other, .int k, .int n, .bl near]) (0 ≤ one) (0 ≤ other) (0 ≤ k) (1 ≤ n) (n ≤ 160) (∀ (p : Addr) (ws : List Int) (H' : Hp), Same H H' → H p = none → H' p = some (.lst (ws.map V.int)) → WaysOk n ws → ws ≠ [] → Q (.ref p) H')
theorem ok_ways (F : DefAt K mg "_law_ways" s_law_ways ["_law_one", "_law_other", "_law_k", "_law_many_here", "_law_near"]) (T : Txt mg) : Dn P w K mg base "_law_ways" 1 ["_law_one", "_law_other", "_law_k", "_law_many_here", "_law_near"] spWays := by
  have sc := sc_law_ways
  refine F.ok sc (fun vs H Q E h => ?_) (fun f cdv A outer s H vs Q E hr h => ?_)
  · obtain ⟨_, _, _, _, _, rfl, _⟩ := h; rfl
  obtain ⟨one, other, k, n, near, rfl, ho, ht, hk0, hn1, hn2, q⟩ := h
  refine ⟨_, (pss_cut (ps_if (PW.pt (pw_and (pt_cmpR op_eq (pe_op op_mod (pv 1) pe_int) pe_int (nomark _)) (pw_and (pt_cmpR op_lt (pv 3) pe_int (nomark _)) (pw_and1 (pt_not (pt_val (pv 4)))))))
      (pss_one (ps_ret (pe_callTy (call_list_rng rfl) rfl T.b_list PyProof.Rows.boot_list (pa_cons (pe_range1 rfl T.b_range (pa_cons (pv 3) pa_nil)) pa_nil))))
      pss_nil)
      (pss_cons (ps_set (i := 5) sc.nd rfl (Or.inl rfl) (pe_lst (pa_cons (pe_op op_mod (pv 0) (pv 3)) (pa_cons (pe_op op_mod (pe_op op_fdiv (pv 0) pe_int) (pv 3)) (pa_cons (pe_op op_mod (pe_op op_fdiv (pv 1) pe_int) (pv 3)) pa_nil)))))
      (pss_cut (ps_if (pt_val (pv 4))
      (pss_one (ps_set (i := 5) sc.nd rfl (Or.inl rfl) (pe_lst (pa_cons (pe_op op_mod (pe_op op_add (pv 2) pe_int) (pv 3)) (pa_cons (pe_op op_mod (pe_op op_add (pe_op op_add (pv 2) pe_int) (pe_op op_mod (pv 0) pe_int)) (pv 3)) (pa_cons (pe_op op_mod (pe_op op_add (pv 2) (pe_op op_mod (pe_op op_fdiv (pv 1) pe_int) pe_int)) (pv 3)) pa_nil))))))
      pss_nil)
      (pss_cons (ps_set (i := 5) sc.nd rfl (Or.inl rfl) (pe_slice (slL (K := K) rfl) (pv 5) po_none (po_some (pe_op op_add pe_int (pe_op op_mod (pv 1) pe_int)))))
      (pss_cut (ps_if (PW.pt (pw_and (pt_cmpR op_eq (pe_op op_mod (pe_op op_fdiv (pv 1) pe_int) pe_int) pe_int (nomark _)) (pw_and1 (pt_not (pt_val (pv 4))))))
      (pss_one (ps_for PassesOwn.never rfl (pi_range1 rfl T.b_range (pa_cons (pe_op op_add pe_int (pe_op op_mod (pe_op op_fdiv (pv 1) pe_int) pe_int)) pa_nil)) (pg_name (i := 6) sc.nd rfl (Or.inl rfl))
      (pss_one (ps_expr (pe_bm PySem.F.plainAttrs_list PySem.F.slot_list_append PySem.F.type_list_append mt_append (pv 5) (pa_cons (pe_op op_mod (pe_op op_fdiv (pv 1) (pe_op op_add pe_int (pe_op op_mul pe_int (pv 6)))) (pv 3)) pa_nil))))))
      pss_nil)
      (pss_one (ps_ret (pe_sorted_setK (K := K) rfl rfl rfl T.b_sorted rfl T.b_set (pa_cons (pv 5) pa_nil))))))))), ?_⟩
  have hm : ∀ x : Int, 0 ≤ x % n ∧ x % n < n := fun x => ⟨Int.emod_nonneg _ (by omega), Int.emod_lt_of_pos _ (by omega)⟩
  have hn0 : 0 < n := by omega
  refine ⟨fun σ' H' => σ' = [some (.int one), some (.int other), some (.int k), some (.int n), some (.bl near), none, none] ∧ H' = H, ?_, ?_⟩
  · refine ⟨_, rfl, _, _, rfl, rfl, (show (0 : Int) < 13 by decide), rfl, _, rfl, ?_⟩
    refine ite2 (fun c => ?_) (fun c => ?_)
    · refine ⟨_, rfl, _, _, rfl, rfl, _, rfl, ?_⟩
      refine ite2 (fun c => ?_) (fun c => ?_)
      · have c' : n < 41 := of_decide_eq_true c
        refine ⟨_, rfl, _, rfl, ?_⟩
        cases near with
        | true => refine iteF ?_; exact ⟨rfl, rfl⟩
        | false =>
          refine iteT ?_
          refine ⟨_, rfl, n, rfl, fun p0 hp0 => ⟨p0, n, rfl, upd_same, by omega, by omega, fun l hl => ?_⟩⟩
          refine q l _ _ ((same_upd hp0 _).trans (same_upd hl _)) ((same_upd hp0 _).free hl) upd_same ⟨?_, fun x hx => ?_, ?_⟩ ?_
          · rw [List.pairwise_map]
            exact List.pairwise_lt_range.imp fun h => by omega
          · obtain ⟨j, hj, rfl⟩ := List.mem_map.mp hx
            have := List.mem_range.mp hj
            omega
          · simp; omega
          · intro z
            have := congrArg List.length z
            simp at this
            omega
      · refine iteF ?_
        exact ⟨rfl, rfl⟩
    · refine iteF ?_
      exact ⟨rfl, rfl⟩
  rintro σ' H' ⟨rfl, rfl⟩
  refine ⟨_, rfl, _, rfl, _, _, rfl, rfl, hn0, _, rfl, _, _, rfl, rfl, ⟨by decide, by decide⟩, _, rfl, _, _, rfl, rfl, hn0, _, rfl, _, _, rfl, rfl, ⟨by decide, by decide⟩, _, rfl, _, _, rfl, rfl, hn0, (by show 3 ≤ sizeLine; decide), fun l0 hl0 => ?_⟩
  refine ⟨fun σ' H1 => Ex2 fun (l : Addr) (ws : List Int) => And5 (σ' = [some (.int one), some (.int other), some (.int k), some (.int n), some (.bl near), some (.ref l), none]) (Same H' H1) (H1 l = some (.lst (ws.map V.int))) (InR n ws) (ws.length = 3), ?_, ?_⟩
  · refine ⟨_, rfl, _, rfl, ?_⟩
    cases near with
    | true =>
      refine iteT ?_
      refine ⟨_, rfl, _, _, rfl, rfl, _, rfl, _, _, rfl, rfl, hn0, _, rfl, _, _, rfl, rfl, _, rfl, _, _, rfl, rfl, (show (0 : Int) < 3 by decide), _, _, rfl, rfl, _, rfl, _, _, rfl, rfl, hn0, _, rfl, _, rfl, _, _, rfl, rfl, ⟨by decide, by decide⟩, _, _, rfl, rfl, (show (0 : Int) < 5 by decide), _, _, rfl, rfl, _, rfl, _, _, rfl, rfl, hn0, (by show 3 ≤ sizeLine; decide), fun l1 hl1 => ?_⟩
      refine ⟨l1, [(k + 1) % n, (k + 1 + one % 3) % n, (k + other / 39 % 5) % n], rfl, (same_upd hl0 _).trans (same_upd hl1 _), upd_same, fun x hx => ?_, rfl⟩
      simp at hx
      rcases hx with rfl | rfl | rfl <;> exact hm _
    | false =>
      refine iteF ?_
      refine ⟨l0, [one % n, one / 161 % n, other / 39 % n], rfl, same_upd hl0 _, upd_same, fun x hx => ?_, rfl⟩
      simp at hx
      rcases hx with rfl | rfl | rfl <;> exact hm _
  rintro σ' H1 ⟨l, ws, rfl, s1, h1, hw1, hw2⟩
  refine ⟨_, rfl, _, rfl, _, _, rfl, rfl, (show (0 : Int) < 3 by decide), _, _, rfl, rfl, _, rfl, l, _, rfl, SqL.of h1, fun p hp => ?_⟩
  obtain ⟨cs, e1, e2, e3⟩ := cut_ints ws none (some (1 + other % 3))
  have hcne : 1 ≤ cs.length := by
    have h0 := Int.emod_nonneg other (show (3 : Int) ≠ 0 by decide)
    have e4 := congrArg List.length e1
    rw [List.length_map] at e4
    rw [← e4]
    unfold cutV
    rw [List.length_take, List.length_drop, List.length_map, hw2]
    unfold HT.sIx
    dsimp only
    repeat' split
    all_goals omega
  have hp1 : upd H1 p (.lst (cutV (ws.map V.int) none (some (1 + other % 3)))) p = some (.lst (cs.map V.int)) := by rw [upd_same, e1]
  have s2 := s1.trans (same_upd hp (.lst (cutV (ws.map V.int) none (some (1 + other % 3)))))
  have hpH : H' p = none := s1.free hp
  have hcs : InR n cs := fun x hx => hw1 x (e2 x hx)
  generalize upd H1 p (.lst (cutV (ws.map V.int) none (some (1 + other % 3)))) = H2 at hp1 s2 ⊢
  refine ⟨fun σ' H3 => Ex2 fun (zs : List Int) (y : Option V) => And6 (σ' = [some (.int one), some (.int other), some (.int k), some (.int n), some (.bl near), some (.ref p), y]) (Same H' H3) (H3 p = some (.lst (zs.map V.int))) (InR n zs) (zs.length ≤ 6) (1 ≤ zs.length), ?_, ?_⟩
  · refine ⟨_, rfl, _, _, rfl, rfl, ⟨by decide, by decide⟩, _, _, rfl, rfl, (show (0 : Int) < 2 by decide), rfl, _, rfl, ?_⟩
    refine ite2 (fun c => ?_) (fun c => ?_)
    · refine ⟨_, rfl, _, rfl, ?_⟩
      cases near with
      | true => refine iteF ?_; exact ⟨cs, _, rfl, s2, hp1, hcs, by omega, hcne⟩
      | false =>
        refine iteT ?_
        have d0 := Int.emod_nonneg (other / 26) (show (3 : Int) ≠ 0 by decide)
        have d1 := Int.emod_lt_of_pos (other / 26) (show (0 : Int) < 3 by decide)
        refine ⟨_, rfl, _, _, rfl, rfl, ⟨by decide, by decide⟩, _, _, rfl, rfl, (show (0 : Int) < 3 by decide), _, _, rfl, rfl, _, rfl, by omega, by omega, for_range (lo := 0) (n := (1 + other / 26 % 3).toNat) (fun j σ H3 => Ex2 fun (zs : List Int) (y : Option V) => And6 (σ = [some (.int one), some (.int other), some (.int k), some (.int n), some (.bl false), some (.ref p), y]) (Same H' H3) (H3 p = some (.lst (zs.map V.int))) (InR n zs) (zs.length ≤ 3 + j) (1 ≤ zs.length))
          ⟨cs, _, rfl, s2, hp1, hcs, by omega, hcne⟩ (fun j σ H3 hj h => ?_) (fun σ H3 h => ?_)⟩
        · obtain ⟨zs, y, rfl, s3, h3, hz3, hl3, hn3⟩ := h
          refine ⟨_, rfl, .inl ⟨rfl, _, SqL.of h3⟩, _, rfl, _, rfl, _, _, rfl, rfl, .inl ⟨by decide, by decide⟩, _, _, rfl, rfl, _, _, rfl, rfl, ⟨by omega, by omega⟩, _, rfl, _, _, rfl, rfl, hn0, p, _, _, rfl, rfl, h3, smlt (m := 1000) (by rw [List.length_map]; omega), ?_⟩
          refine ⟨zs ++ [_], _, rfl, s3.put hpH _, by rw [upd_same, List.map_append]; rfl, fun x hx => ?_, by simp; omega, by simp⟩
          rcases List.mem_append.mp hx with h | h
          · exact hz3 x h
          · rw [List.mem_singleton.mp h]; exact hm _
        · obtain ⟨zs, y, rfl, s3, h3, hz3, hl3, hn3⟩ := h
          exact ⟨zs, _, rfl, s3, h3, hz3, by omega, hn3⟩
    · refine iteF ?_
      exact ⟨cs, _, rfl, s2, hp1, hcs, by omega, hcne⟩
  rintro σ' H3 ⟨zs, y, rfl, s3, h3, hz3, hl3, hn3⟩
  have h64 : ∀ ns : List Int, ns.Nodup → (∀ k ∈ ns, k ∈ zs) → ns.length ≤ 6 := fun ns hn hs => Nat.le_trans (nodup_sub ns zs hn hs) hl3
  refine ⟨_, rfl, p, zs, rfl, SqL.of h3, by omega, (fun ns hn hs => by have := h64 ns hn hs; omega), fun p2 ns hp2 pw mem => ?_⟩
  have hn : ns.Nodup := pw.imp fun h => by omega
  exact q p2 ns _ (s3.trans (same_upd hp2 _)) (s3.free hp2) upd_same ⟨pw, fun x hx => hz3 x ((mem x).mp hx), Nat.le_trans (h64 ns hn fun k hk => (mem k).mp hk) (by decide)⟩ (fun z => by
    cases zs with
    | nil => simp at hn3
    | cons x xs =>
      have := (mem x).mpr (List.mem_cons_self ..)
      rw [z] at this; cases this)
def spGame (K : PySem.W.Frag) : Sp := fun vs H Q _ => Ex3 fun (a : Addr) (ns : List Int) (n : Int) => And6 (vs = [.ref a, .int n]) (SqL K H a (ns.map V.int)) (ns.length ≤ 63) (0 ≤ n) (n ≤ 160) (∀ (v : V) (H' : Hp) (G : List Row), Same H H' → rGame H' G v → GOk G → NE G → H01 G → (G.length : Int) = n → Q v H')
theorem ok_game (F : DefAt K mg "_law_game" s_law_game ["_law_script", "_law_many_here"]) (T : Txt mg) (D_law_cell_at : Dn P w K mg base "_law_cell_at" 1 ["_law_script", "_law_k"] (spCell K)) (D_law_ways : Dn P w K mg base "_law_ways" 1 ["_law_one", "_law_other", "_law_k", "_law_many_here", "_law_near"] spWays) :
    Dn P w K mg base "_law_game" 2 ["_law_script", "_law_many_here"] (spGame K) := by
  have sc := sc_law_game
  refine F.ok sc (fun vs H Q E h => ?_) (fun f cdv A outer s H vs Q E hr h => ?_)
  · obtain ⟨_, _, _, rfl, _⟩ := h; rfl
  obtain ⟨a, ns, n, rfl, hS, h63, hn0, hn1, q⟩ := h
  refine ⟨_, (pss_cons (ps_set (i := 2) sc.nd rfl (Or.inl rfl) (pe_cmpR op_eq (pe_op op_mod (pe_op op_fdiv (pe_dn D_law_cell_at hr (pa_cons (pv 0) (pa_cons pe_int pa_nil))) pe_int) pe_int) pe_int (nomark _)))
      (pss_cons (ps_set (i := 3) sc.nd rfl (Or.inl rfl) (pe_lst pa_nil))
      (pss_cons (ps_for PassesOwn.never rfl (pi_range1 rfl T.b_range (pa_cons (pv 1) pa_nil)) (pg_name (i := 4) sc.nd rfl (Or.inl rfl))
      (pss_cons (ps_set (i := 5) sc.nd rfl (Or.inl rfl) (pe_dn D_law_cell_at hr (pa_cons (pv 0) (pa_cons (pe_op op_add (pe_op op_mul pe_int (pv 4)) pe_int) pa_nil))))
      (pss_cons (ps_set (i := 6) sc.nd rfl (Or.inl rfl) (pe_dn D_law_ways hr (pa_cons (pe_dn D_law_cell_at hr (pa_cons (pv 0) (pa_cons (pe_op op_add (pe_op op_mul pe_int (pv 4)) pe_int) pa_nil))) (pa_cons (pe_dn D_law_cell_at hr (pa_cons (pv 0) (pa_cons (pe_op op_add (pe_op op_mul pe_int (pv 4)) pe_int) pa_nil))) (pa_cons (pv 4) (pa_cons (pv 1) (pa_cons (pv 2) pa_nil)))))))
      (pss_cons (ps_set (i := 7) sc.nd rfl (Or.inl rfl) (pe_op op_mod (pe_op op_fdiv (pv 5) pe_int) pe_int))
      (pss_cut (ps_if (pt_cmpR op_gt (pv 1) pe_int (nomark _))
      (pss_one (ps_set (i := 7) sc.nd rfl (Or.inl rfl) (pe_op op_mod (pv 7) pe_int)))
      pss_nil)
      (pss_one (ps_expr (pe_bm PySem.F.plainAttrs_list PySem.F.slot_list_append PySem.F.type_list_append mt_append (pv 3) (pa_cons (pe_tup (pa_cons (pe_op op_mod (pv 5) pe_int) (pa_cons (pv 7) (pa_cons (pv 6) pa_nil)))) pa_nil)))))))))
      (pss_one (ps_ret (pv 3)))))), ?_⟩
  refine ⟨_, rfl, a, ns, 0, rfl, hS, h63, by decide, by decide, fun m hm0 hm1 => ?_⟩
  refine ⟨_, _, rfl, rfl, ⟨by decide, by decide⟩, _, _, rfl, rfl, (show (0 : Int) < 3 by decide), rfl, ?_⟩
  obtain ⟨near, hnear⟩ : ∃ b : Bool, b = decide (V.int (m / 2000 % 3) = V.int 1) := ⟨_, rfl⟩
  refine ⟨Nat.zero_le _, fun g hg => ?_⟩
  refine ⟨_, rfl, n, rfl, by omega, by omega, for_range (lo := 0) (n := n.toNat) (fun i σ H2 => Ex5 fun (G' : List Row) (y1 : Option V) (y2 : Option V) (y3 : Option V) (y4 : Option V) => And4 (σ = [some (.ref a), some (.int n), some (.bl near), some (.ref g), y1, y2, y3, y4]) (Bld rRow H H2 g G') (G'.length = i) (∀ row ∈ G', WaysOk n row.2.2 ∧ row.2.2 ≠ [] ∧ (row.1 = 0 ∨ row.1 = 1)))
    ⟨[], _, _, _, _, by rw [hnear]; rfl, Bld.start (Same.refl _) hg, rfl, fun _ z => by cases z⟩ (fun i σ H2 hi h => ?_) (fun σ H2 h => ?_)⟩
  · obtain ⟨G', y1, y2, y3, y4, rfl, b, hl, hk⟩ := h
    refine ⟨_, rfl, _, rfl, _, _, rfl, rfl, .inl ⟨by decide, by decide⟩, _, _, rfl, rfl, a, ns, _, rfl, b.s.seq hS, h63, by omega, by omega, fun one ho0 ho1 => ?_⟩
    refine ⟨_, rfl, _, rfl, _, _, rfl, rfl, .inl ⟨by decide, by decide⟩, _, _, rfl, rfl, a, ns, _, rfl, b.s.seq hS, h63, by omega, by omega, fun c1 hc10 hc11 => ?_⟩
    refine ⟨_, rfl, _, rfl, _, _, rfl, rfl, .inl ⟨by decide, by decide⟩, _, _, rfl, rfl, a, ns, _, rfl, b.s.seq hS, h63, by omega, by omega, fun c2 hc20 hc21 => ?_⟩
    refine ⟨_, rfl, _, rfl, _, rfl, c1, c2, _, n, near, rfl, hc10, hc20, by omega, by omega, by omega, fun p ws H3 s3 hp0 hp3 hw hwn => ?_⟩
    refine ⟨_, rfl, _, _, rfl, rfl, ⟨by decide, by decide⟩, _, _, rfl, rfl, (show (0 : Int) < 41 by decide), ?_⟩
    refine ⟨fun σ' H' => H' = H3 ∧ ∃ z : Int, σ' = [some (.ref a), some (.int n), some (.bl near), some (.ref g), some (.int (0 + (i : Nat))), some (.int one), some (.ref p), some (.int z)], ?_, ?_⟩
    · refine ⟨_, rfl, _, _, rfl, rfl, _, rfl, ?_⟩
      refine ite2 (fun c => ?_) (fun c => ?_)
      · exact ⟨_, rfl, _, _, rfl, rfl, (show (0 : Int) < 3 by decide), rfl, _, rfl⟩
      · exact ⟨rfl, _, rfl⟩
    rintro σ' H' ⟨rfl, z9, rfl⟩
    obtain ⟨gvs, hgv, _⟩ := b.sq
    refine ⟨_, rfl, .inl ⟨rfl, _, SqL.of (s3 _ _ hgv)⟩, _, rfl, _, _, rfl, rfl, (show (0 : Int) < 2 by decide), _, rfl, _, rfl, (by show 3 ≤ sizeLine; decide), fun t2 ht2' => ?_⟩
    obtain ⟨vs4, k1, k2, b4⟩ := b.push mono_row (s3.trans (same_upd ht2' _)) (row_new (h := one % 2) (r := z9) s3 hp0 hp3 ht2')
    refine ⟨g, vs4, _, rfl, rfl, k1, (smlt (m := 1000) (by omega)), ?_⟩
    refine ⟨_, _, _, _, _, rfl, b4, by simp [hl], fun rw hrw => ?_⟩
    rcases List.mem_append.mp hrw with h | h
    · exact hk rw h
    · rw [List.mem_singleton.mp h]; exact ⟨hw, hwn, by have := Int.emod_nonneg one (show (2 : Int) ≠ 0 by decide); have := Int.emod_lt_of_pos one (show (0 : Int) < 2 by decide); show one % 2 = 0 ∨ one % 2 = 1; omega⟩
  · obtain ⟨G', y1, y2, y3, y4, rfl, b, hl, hk⟩ := h
    have e : (G'.length : Int) = n := by omega
    refine ⟨_, rfl, q _ _ G' b.s (mono_game.up (newp_same _ _) (b.done mono_row)) ⟨by omega, fun row hr => ?_⟩ (fun row hr => (hk row hr).2.1) (fun row hr => (hk row hr).2.2) e⟩
    rw [e]; exact (hk row hr).1
def spGoal (K : PySem.W.Frag) : Sp := fun vs H Q _ => Ex3 fun (a : Addr) (ns : List Int) (n : Int) => And6 (vs = [.ref a, .int n]) (SqL K H a (ns.map V.int)) (ns.length ≤ 63) (0 ≤ n) (n ≤ 160) (∀ (p : Addr) (gs : List Int) (H' : Hp), Same H H' → H p = none → H' p = some (.lst (gs.map V.int)) → gs.length ≤ 41 → Q (.ref p) H')
theorem ok_goal (F : DefAt K mg "_law_goal" s_law_goal ["_law_script", "_law_many_here"]) (T : Txt mg) (D_law_cell_at : Dn P w K mg base "_law_cell_at" 1 ["_law_script", "_law_k"] (spCell K)) : Dn P w K mg base "_law_goal" 2 ["_law_script", "_law_many_here"] (spGoal K) := by
  have sc := sc_law_goal
  refine F.ok sc (fun vs H Q E h => ?_) (fun f cdv A outer s H vs Q E hr h => ?_)
  · obtain ⟨_, _, _, rfl, _⟩ := h; rfl
  obtain ⟨a, ns, n, rfl, hS, h63, hn0, hn1, q⟩ := h
  have hl : (ns.map V.int).length = ns.length := List.length_map _
  refine ⟨_, (pss_cons (ps_set (i := 2) sc.nd rfl (Or.inl rfl) (pe_dn D_law_cell_at hr (pa_cons (pv 0) (pa_cons (pe_op op_add (pe_callB (clLen (K := K) rfl) rfl T.b_len PySem.boot_len (pa_cons (pv 0) pa_nil)) pe_int) pa_nil))))
      (pss_cons (ps_set (i := 3) sc.nd rfl (Or.inl rfl) (pe_op op_mod (pv 2) pe_int))
      (pss_cut (ps_if (pt_cmpR op_eq (pe_op op_mod (pe_op op_fdiv (pv 2) pe_int) pe_int) pe_int (nomark _))
      (pss_one (ps_set (i := 3) sc.nd rfl (Or.inl rfl) (pe_op op_mod (pe_op op_fdiv (pv 2) pe_int) pe_int)))
      pss_nil)
      (pss_cut (ps_if (pt_cmpR op_eq (pv 1) pe_int (nomark _))
      (pss_one (ps_ret (pe_lst pa_nil)))
      pss_nil)
      (pss_one (ps_ret (pe_lc (defScope s_law_goal) ["_law_script", "_law_many_here", "_law_cell", "_law_size"] ["_law_k", "_law_script", "_law_many_here"] 1 [0, 1] (pi_range1 rfl T.b_range (pa_cons (pv 3) pa_nil)) (fun _ _ _ _ _ _ => (ptg_name (show List.Nodup (["_law_k", "_law_script", "_law_many_here"] : List Str) by decide +kernel) rfl rfl)) (fun _ _ _ _ _ _ => pts_nil) (fun _ _ _ _ _ _ => (pe_op op_mod (pe_dn D_law_cell_at hr (pa_cons (pv 1) (pa_cons (pe_op op_add (pe_op op_add (pe_callB (clLen (K := K) rfl) rfl T.b_len PySem.boot_len (pa_cons (pv 1) pa_nil)) pe_int) (pv 0)) pa_nil))) (pv 2)))))))))), ?_⟩
  refine ⟨_, rfl, _, rfl, a, _, rfl, .inl hS, _, _, rfl, rfl, a, ns, _, rfl, hS, h63, by omega, by rw [hl]; omega, fun m hm0 hm1 => ?_⟩
  refine ⟨_, rfl, _, _, rfl, rfl, (show (0 : Int) < 5 by decide), ?_⟩
  refine ⟨fun σ' H' => H' = H ∧ ∃ z : Int, σ' = [some (.ref a), some (.int n), some (.int m), some (.int z)] ∧ 0 ≤ z ∧ z ≤ 40, ?_, ?_⟩
  · refine ⟨_, rfl, _, _, rfl, rfl, ⟨by decide, by decide⟩, _, _, rfl, rfl, (show (0 : Int) < 5 by decide), rfl, _, rfl, ?_⟩
    refine ite2 (fun c => ?_) (fun c => ?_)
    · refine ⟨_, rfl, _, _, rfl, rfl, ⟨by decide, by decide⟩, _, _, rfl, rfl, (show (0 : Int) < 41 by decide), ?_⟩
      exact ⟨rfl, _, rfl, Int.emod_nonneg _ (by decide), by have := Int.emod_lt_of_pos (m / 25) (show (0 : Int) < 41 by decide); omega⟩
    · exact ⟨rfl, _, rfl, Int.emod_nonneg _ (by decide), by have := Int.emod_lt_of_pos m (show (0 : Int) < 5 by decide); omega⟩
  rintro σ' H' ⟨rfl, z, rfl, z0, z1⟩
  refine ⟨fun σ' H2 => H2 = H' ∧ σ' = [some (.ref a), some (.int n), some (.int m), some (.int z)] ∧ 1 ≤ n, ?_, ?_⟩
  · refine ⟨_, rfl, rfl, _, rfl, ?_⟩
    refine ite2 (fun c => ?_) (fun c => ?_)
    · exact ⟨Nat.zero_le _, fun p hp => q p [] _ (same_upd hp _) hp upd_same (by simp)⟩
    · have c' : ¬ n = 0 := fun e => c (decide_eq_true (by rw [e]))
      exact ⟨rfl, rfl, by omega⟩
  rintro σ' H2 ⟨rfl, rfl, hn2⟩
  refine ⟨_, rfl, z, rfl, by omega, by omega, comp_rangeD (lo := 0) (n := z.toNat) (fun i ys H3 => H3 = H2 ∧ ∃ zs : List Int, ys = zs.map V.int ∧ zs.length = i) ⟨rfl, [], rfl, rfl⟩ (small (m := 1000) (by omega)) (fun i ys H3 _ h => ?_) (fun i ys H3 hi h => ?_) (fun ys H3 h p hp => ?_)⟩
  · obtain ⟨_, zs, rfl, hl3⟩ := h
    rw [List.length_map]; omega
  · obtain ⟨rfl, zs, rfl, hl3⟩ := h
    refine comp_yes ?_
    refine ⟨_, rfl, _, rfl, a, _, rfl, .inl hS, _, _, rfl, rfl, _, rfl, _, _, rfl, rfl, a, ns, _, rfl, hS, h63, by omega, by rw [hl]; omega, fun m2 _ _ => ?_⟩
    refine ⟨_, rfl, _, _, rfl, rfl, (show 0 < n by omega), ?_⟩
    exact ⟨rfl, zs ++ [_], by rw [List.map_append]; rfl, by simp [hl3]⟩
  · obtain ⟨rfl, zs, rfl, hl3⟩ := h
    exact q p zs _ (same_upd hp _) hp upd_same (by omega)
/-- the depths: -1 just where a place was not seen -/
def DepI (n : Nat) (X : Nat → Int → Prop) (D : List Int) : Prop := D.length = n ∧ ∀ p : Int, 0 ≤ p → p < n → ∃ z, D[p.toNat]? = some z ∧ ((∃ i : Nat, X i p ∧ z = i) ∨ ((∀ i, ¬ X i p) ∧ z = -1))
theorem DepI.congr {n : Nat} {X Y : Nat → Int → Prop} {D : List Int} (h : DepI n X D) (e : ∀ i p, X i p ↔ Y i p) : DepI n Y D := ⟨h.1, fun p p0 p1 => by
  obtain ⟨z, h1, h2⟩ := h.2 p p0 p1
  refine ⟨z, h1, ?_⟩
  rcases h2 with ⟨i, a, b⟩ | ⟨a, b⟩
  · exact .inl ⟨i, (e i p).mp a, b⟩
  · exact .inr ⟨fun i y => a i ((e i p).mpr y), b⟩⟩
theorem DepI.set {n : Nat} {X : Nat → Int → Prop} {D : List Int} {x : Int} {k : Nat} (h : DepI n X D) (x0 : 0 ≤ x) (x1 : x < n) : DepI n (fun i p => X i p ∨ (i = k ∧ p = x)) (D.set x.toNat (k : Int)) := by
  refine ⟨by rw [List.length_set]; exact h.1, fun p p0 p1 => ?_⟩
  by_cases e : p = x
  · subst e
    exact ⟨(k : Int), List.getElem?_set_self (by have := h.1; omega), .inl ⟨k, .inr ⟨rfl, rfl⟩, rfl⟩⟩
  · have hne : x.toNat ≠ p.toNat := by omega
    obtain ⟨z, h1, h2⟩ := h.2 p p0 p1
    refine ⟨z, by rw [List.getElem?_set_ne hne]; exact h1, ?_⟩
    rcases h2 with ⟨i, a, b⟩ | ⟨a, b⟩
    · exact .inl ⟨i, .inl a, b⟩
    · exact .inr ⟨fun i y => y.elim (a i) fun y => e y.2, b⟩
theorem ok_whole (F : DefAt K mg "_law_whole" s_law_whole ["_law_found"]) (T : Txt mg) : Dn P w K mg base "_law_whole" 1 ["_law_found"] spWhole := by
  have sc := sc_law_whole
  refine F.ok sc (fun vs H Q E h => ?_) (fun f cdv A outer s H vs Q E hr h => ?_)
  · obtain ⟨z, rfl, _⟩ := h; rfl
  obtain ⟨z, rfl, q⟩ := h
  refine ⟨_, (pss_one (ps_ret (pe_and (pe_callB (clIsi (K := K) rfl (T := "int")) rfl T.b_isinstance PyProof.Rows.boot_isinstance (pa_cons (pv 0) (pa_cons (pe_bltn (v := .ty "int") rfl T.b_int PyProof.Rows.boot_int rfl) pa_nil))) (pe_one (pe_not (pe_callB (clIsi (K := K) rfl (T := "bool")) rfl T.b_isinstance PyProof.Rows.boot_isinstance (pa_cons (pv 0) (pa_cons (pe_bltn (v := .ty "bool") rfl T.b_bool PyProof.Rows.boot_bool rfl) pa_nil)))))))), ?_⟩
  refine ⟨_, rfl, _, "int", _, rfl, rfl, isi_same _, true, rfl, ?_⟩
  refine iteT ?_
  exact ⟨_, rfl, _, "int", _, rfl, rfl, isi_int_bool, false, rfl, q⟩
def dI (D : List Int) (p : Int) : Int := (D[p.toNat]?).getD (-1)
theorem dI_at {D : List Int} {p z : Int} (h : D[p.toNat]? = some z) : dI D p = z := by unfold dI; rw [h]; rfl
theorem DepI.dd {n : Nat} {X : Nat → Int → Prop} {D : List Int} (h : DepI n X D) {p : Int} (p0 : 0 ≤ p) (p1 : p < n) : (∃ i : Nat, X i p ∧ dI D p = i) ∨ ((∀ i, ¬ X i p) ∧ dI D p = -1) := by
  obtain ⟨z, h1, h2⟩ := h.2 p p0 p1
  rw [dI_at h1]; exact h2
def spKinds : Sp := fun vs H Q _ => Ex7 fun (v : V) (t : Addr) (ha : Addr) (wa : Addr) (G : List Row) (hf : Int → Int) (W : Int → Option Int) => And9 (vs = [v, .ref t]) (rGame H G v) (GOk G) (H t = some (.tup [.ref ha, .ref wa])) (H ha = some (.lst ((im G.length hf).map V.int))) (H wa = some (.lst (om G.length W))) ((∀ p, 0 ≤ hf p ∧ hf p ≤ 1)) ((∀ p : Int, 0 ≤ p → p < G.length → ∀ z, W p = some z → z ∈ wy G p)) (∀ H' : Hp, Same H H' → Q (.bl true) H')
theorem ok_kinds (F : DefAt K mg "_law_kinds" s_law_kinds ["_law_game_here", "_law_found"]) (T : Txt mg) (D_law_whole : Dn P w K mg base "_law_whole" 1 ["_law_found"] spWhole) : Dn P w K mg base "_law_kinds" 2 ["_law_game_here", "_law_found"] spKinds := by
  have sc := sc_law_kinds
  refine F.ok sc (fun vs H Q E h => ?_) (fun f cdv A outer s H vs Q E hr h => ?_)
  · obtain ⟨_, _, _, _, _, _, _, rfl, _⟩ := h; rfl
  obtain ⟨v, t, ha, wa, G, hf, W, rfl, hG, hok, ht, hha, hwa, hf01, hW, q⟩ := h
  obtain ⟨g0, gv, rfl, hg0, hgl, hrow⟩ := game_parts hG
  have h160 := hok.1
  refine ⟨_, (pss_cons (ps_if (PW.pt (pw_or (pt_not (pt_val (pe_callB (clIsi (K := K) rfl (T := "tuple")) rfl T.b_isinstance PyProof.Rows.boot_isinstance (pa_cons (pv 1) (pa_cons (pe_bltn (v := .ty "tuple") rfl T.b_tuple PyProof.Rows.boot_tuple rfl) pa_nil))))) (pw_or1 (pt_cmpR op_ne (pe_callB (clLen (K := K) rfl) rfl T.b_len PySem.boot_len (pa_cons (pv 1) pa_nil)) pe_int (nomark _)))))
      (pss_one (ps_ret pe_bl))
      pss_nil)
      (pss_cons (ps_if (PW.pt (pw_or (pt_not (pt_val (pe_callB (clIsi (K := K) rfl (T := "list")) rfl T.b_isinstance PyProof.Rows.boot_isinstance (pa_cons (pe_ix (ixT (K := K) rfl) (pv 1) pe_int (fun _ _ => rfl)) (pa_cons (pe_bltn (v := .ty "list") rfl T.b_list PyProof.Rows.boot_list rfl) pa_nil))))) (pw_or1 (pt_not (pt_val (pe_callB (clIsi (K := K) rfl (T := "list")) rfl T.b_isinstance PyProof.Rows.boot_isinstance (pa_cons (pe_ix (ixT (K := K) rfl) (pv 1) pe_int (fun _ _ => rfl)) (pa_cons (pe_bltn (v := .ty "list") rfl T.b_list PyProof.Rows.boot_list rfl) pa_nil))))))))
      (pss_one (ps_ret pe_bl))
      pss_nil)
      (pss_cons (ps_if (PW.pt (pw_or (pt_cmpR op_ne (pe_callB (clLen (K := K) rfl) rfl T.b_len PySem.boot_len (pa_cons (pe_ix (ixT (K := K) rfl) (pv 1) pe_int (fun _ _ => rfl)) pa_nil)) (pe_callB (clLen (K := K) rfl) rfl T.b_len PySem.boot_len (pa_cons (pv 0) pa_nil)) (nomark _)) (pw_or1 (pt_cmpR op_ne (pe_callB (clLen (K := K) rfl) rfl T.b_len PySem.boot_len (pa_cons (pe_ix (ixT (K := K) rfl) (pv 1) pe_int (fun _ _ => rfl)) pa_nil)) (pe_callB (clLen (K := K) rfl) rfl T.b_len PySem.boot_len (pa_cons (pv 0) pa_nil)) (nomark _)))))
      (pss_one (ps_ret pe_bl))
      pss_nil)
      (pss_cons (ps_for PassesOwn.never rfl (pi_range1 rfl T.b_range (pa_cons (pe_callB (clLen (K := K) rfl) rfl T.b_len PySem.boot_len (pa_cons (pv 0) pa_nil)) pa_nil)) (pg_name (i := 2) sc.nd rfl (Or.inl rfl))
      (pss_cons (ps_if (PW.pt (pw_or (pt_not (pt_val (pe_dn D_law_whole hr (pa_cons (pe_ix (ixL (K := K) rfl) (pe_ix (ixT (K := K) rfl) (pv 1) pe_int (fun _ _ => rfl)) (pv 2) (fun _ _ => rfl)) pa_nil)))) (pw_or (pt_cmpR op_lt (pe_ix (ixL (K := K) rfl) (pe_ix (ixT (K := K) rfl) (pv 1) pe_int (fun _ _ => rfl)) (pv 2) (fun _ _ => rfl)) pe_int (nomark _)) (pw_or1 (pt_cmpR op_gt (pe_ix (ixL (K := K) rfl) (pe_ix (ixT (K := K) rfl) (pv 1) pe_int (fun _ _ => rfl)) (pv 2) (fun _ _ => rfl)) pe_int (nomark _))))))
      (pss_one (ps_ret pe_bl))
      pss_nil)
      (pss_cons (ps_set (i := 3) sc.nd rfl (Or.inl rfl) (pe_ix (ixL (K := K) rfl) (pe_ix (ixT (K := K) rfl) (pv 1) pe_int (fun _ _ => rfl)) (pv 2) (fun _ _ => rfl)))
      (pss_one (ps_if (PW.pt (pw_and (pt_cmp (pc_notN (pv 3))) (pw_and1 (PW.pt (pw_or (pt_not (pt_val (pe_dn D_law_whole hr (pa_cons (pv 3) pa_nil)))) (pw_or1 (pt_cmpR (notInS (K := K) rfl) (pv 3) (pe_ix (ixT (K := K) rfl) (pe_ix (ixL (K := K) rfl) (pv 0) (pv 2) (fun _ _ => rfl)) pe_int (fun _ _ => rfl)) rfl)))))))
      (pss_one (ps_ret pe_bl))
      pss_nil)))))
      (pss_one (ps_ret pe_bl)))))), ?_⟩
  refine ⟨_, rfl, _, "tuple", _, rfl, .inr (.inl ⟨rfl, _, ht⟩), isi_same _, _, rfl, ?_⟩
  refine iteF ?_
  refine ⟨_, rfl, t, _, rfl, .inr (SqT.of ht), rfl, _, rfl, ?_⟩
  refine iteF ?_
  have a0 : atI [V.ref ha, V.ref wa] 0 = some (.ref ha) := atI_nat (j := 0) rfl
  have a1 : atI [V.ref ha, V.ref wa] 1 = some (.ref wa) := atI_nat (j := 1) rfl
  refine (rd_tixc rfl (SqT.of ht) a0 ⟨_, "list", _, rfl, .inl ⟨rfl, .inl ⟨_, hha⟩⟩, isi_same _, _, rfl, ?_⟩)
  refine iteF ?_
  refine (rd_tixc rfl (SqT.of ht) a1 ⟨_, "list", _, rfl, .inl ⟨rfl, .inl ⟨_, hwa⟩⟩, isi_same _, _, rfl, ?_⟩)
  refine iteF ?_
  refine (rd_tixc rfl (SqT.of ht) a0 ⟨ha, _, rfl, .inl (SqL.of hha), _, rfl, g0, _, rfl, .inl (SqL.of hg0), rfl, _, rfl, ?_⟩)
  refine ite2 (fun c => ?_) (fun c => ?_)
  · exfalso; rw [List.length_map, im_len, hgl] at c; simp at c
  refine (rd_tixc rfl (SqT.of ht) a1 ⟨wa, _, rfl, .inl (SqL.of hwa), _, rfl, g0, _, rfl, .inl (SqL.of hg0), rfl, _, rfl, ?_⟩)
  refine ite2 (fun c => ?_) (fun c => ?_)
  · exfalso; rw [om_len, hgl] at c; simp at c
  refine ⟨_, rfl, g0, _, rfl, .inl (SqL.of hg0), _, rfl, by omega, by omega, for_range (lo := 0) (n := ((gv.length : Nat) : Int).toNat) (fun i σ H2 => Same H H2 ∧ ∃ y1 y2 : Option V, σ = [some (.ref g0), some (.ref t), y1, y2])
    ⟨Same.refl _, _, _, rfl⟩ (fun i σ H2 hi h => ?_) (fun σ H2 h => ?_)⟩
  · obtain ⟨s2, y1, y2, rfl⟩ := h
    rw [Int.toNat_natCast, hgl] at hi
    have hp : 0 ≤ ((i : Nat) : Int) ∧ ((i : Nat) : Int) < G.length := by omega
    have hath : atI ((im G.length hf).map V.int) (0 + ((i : Nat) : Int)) = some (V.int (hf ((i : Nat) : Int))) := by rw [Int.zero_add]; exact atI_i hp.1 (by rw [List.getElem?_map, im_at hp.1 hp.2]; rfl)
    have hatw : atI (om G.length W) (0 + ((i : Nat) : Int)) = some (oW (W ((i : Nat) : Int))) := by rw [Int.zero_add]; exact atI_i hp.1 (om_at hp.1 hp.2)
    obtain ⟨row, hrw⟩ : ∃ row, G[i]? = some row := ⟨G[i], by simp⟩
    obtain ⟨tr, wr, p1, p2, p3⟩ := hrow i row hrw
    have hrw' : G[((i : Nat) : Int).toNat]? = some row := by rw [Int.toNat_natCast]; exact hrw
    have ewy := wy_at hrw'
    have hat0 : atI gv (0 + ((i : Nat) : Int)) = some (.ref tr) := by rw [Int.zero_add]; exact atI_nat p1
    obtain ⟨f0, f1⟩ := hf01 ((i : Nat) : Int)
    refine (rd_tixc rfl (SqT.of (s2 _ _ ht)) a0 ⟨_, rfl, ha, _, _, _, rfl, rfl, SqL.of (s2 _ _ hha), hath, _, rfl, _, rfl, ?_⟩)
    refine iteF ?_
    refine (rd_tixc rfl (SqT.of (s2 _ _ ht)) a0 ⟨_, rfl, ha, _, _, _, rfl, rfl, SqL.of (s2 _ _ hha), hath, _, _, rfl, rfl, _, rfl, ?_⟩)
    refine ite2 (fun c => ?_) (fun c => ?_)
    · have := of_decide_eq_true c; omega
    refine (rd_tixc rfl (SqT.of (s2 _ _ ht)) a0 ⟨_, rfl, ha, _, _, _, rfl, rfl, SqL.of (s2 _ _ hha), hath, _, _, rfl, rfl, _, rfl, ?_⟩)
    refine ite2 (fun c => ?_) (fun c => ?_)
    · have := of_decide_eq_true c; omega
    refine (rd_tixc rfl (SqT.of (s2 _ _ ht)) a1 ⟨_, rfl, wa, _, _, _, rfl, rfl, SqL.of (s2 _ _ hwa), hatw, ?_⟩)
    cases eW : W ((i : Nat) : Int) with
    | none =>
      refine ⟨_, rfl, _, rfl, ?_⟩
      refine iteF ?_
      refine iteF ?_
      exact ⟨s2, _, _, rfl⟩
    | some z =>
      have hz := hW _ hp.1 hp.2 z eW
      rw [ewy] at hz
      refine ⟨_, rfl, _, rfl, ?_⟩
      refine iteT ?_
      refine ⟨_, rfl, z, rfl, _, rfl, ?_⟩
      refine iteF ?_
      refine ⟨_, rfl, rd_gix rfl rfl (SqL.of (s2 _ _ hg0)) hat0 (SqT.of (s2 _ _ p2)) (atI_nat (j := 2) rfl) ⟨wr, _, rfl, .inl (SqL.of (s2 _ _ p3)), rfl, flat_ints _, _, rfl, ?_⟩⟩
      refine ite2 (fun c => ?_) (fun c => ?_)
      · exfalso
        have c' : (!inV (V.int z) (row.2.2.map V.int)) = true := c
        rw [inV_ints, decide_eq_true hz] at c'
        cases c'
      · exact ⟨s2, _, _, rfl⟩
  · exact q _ h.1
/-- the comprehension over ints with a test, told by a function -/
def spRound : Sp := fun vs H Q _ => Ex8 fun (v : V) (wa : Addr) (sa : Addr) (k : Int) (G : List Row) (W : Int → Option Int) (S : List Int) (D : List Int) => And10 (vs = [v, .ref wa, .ref sa, .int k]) (rGame H G v) (GOk G) (NE G) (H wa = some (.lst (om G.length W))) (H sa = some (.lst (D.map V.int))) (D.length = G.length) ((∀ p : Int, 0 ≤ p → p < G.length → (dI D p = -1 ↔ p ∉ S))) ((∀ p : Int, 0 ≤ p → p < G.length → ∀ z, W p = some z → z ∈ wy G p)) (∀ (p : Addr) (H' : Hp), Same H H' → H p = none → H' p = some (.lst (((rng G.length).filter (roundB G W S)).map V.int)) → Q (.ref p) H')
theorem dI_ex {D : List Int} {n : Nat} (h : D.length = n) {p : Int} (p0 : 0 ≤ p) (p1 : p < n) : atI (D.map V.int) p = some (V.int (dI D p)) := by
  obtain ⟨z, hz⟩ : ∃ z, D[p.toNat]? = some z := ⟨D[p.toNat]'(by omega), by simp⟩
  rw [dI_at hz]
  exact atI_i p0 (by rw [List.getElem?_map, hz]; rfl)
theorem ok_round (F : DefAt K mg "_law_round" s_law_round ["_law_game_here", "_law_ways_here", "_law_sure_here", "_law_k"]) (T : Txt mg) : Dn P w K mg base "_law_round" 1 ["_law_game_here", "_law_ways_here", "_law_sure_here", "_law_k"] spRound := by
  have sc := sc_law_round
  refine F.ok sc (fun vs H Q E h => ?_) (fun f cdv A outer s H vs Q E hr h => ?_)
  · obtain ⟨_, _, _, _, _, _, _, _, rfl, _⟩ := h; rfl
  obtain ⟨v, wa, sa, k, G, W, S, D, rfl, hG, hok, hne, hwa, hsa, hDl, hDS, hW, q⟩ := h
  obtain ⟨g0, gv, rfl, hg0, hgl, hrow⟩ := game_parts hG
  have h160 := hok.1
  refine ⟨_, (pss_cons (ps_set (i := 4) sc.nd rfl (Or.inl rfl) (pe_lst pa_nil))
      (pss_cons (ps_for PassesOwn.never rfl (pi_range1 rfl T.b_range (pa_cons (pe_callB (clLen (K := K) rfl) rfl T.b_len PySem.boot_len (pa_cons (pv 0) pa_nil)) pa_nil)) (pg_name (i := 5) sc.nd rfl (Or.inl rfl))
      (pss_one (ps_if (pt_cmpR op_eq (pe_ix (ixL (K := K) rfl) (pv 2) (pv 5) (fun _ _ => rfl)) (pe_un un_neg pe_int) (nomark _))
      (pss_cons (ps_set (i := 6) sc.nd rfl (Or.inl rfl) (pe_ix (ixT (K := K) rfl) (pe_ix (ixL (K := K) rfl) (pv 0) (pv 5) (fun _ _ => rfl)) pe_int (fun _ _ => rfl)))
      (pss_cut (ps_if (pt_cmpR op_eq (pe_ix (ixT (K := K) rfl) (pe_ix (ixL (K := K) rfl) (pv 0) (pv 5) (fun _ _ => rfl)) pe_int (fun _ _ => rfl)) pe_int (nomark _))
      (pss_one (ps_lc (i := 6) (defScope s_law_round) ["_law_game_here", "_law_ways_here", "_law_sure_here", "_law_k", "_law_found", "_law_at", "_law_led"] ["_law_way"] 1 [] sc.nd rfl rfl (pi_list (pe_lst (pa_cons (pe_ix (ixL (K := K) rfl) (pv 1) (pv 5) (fun _ _ => rfl)) pa_nil))) (fun _ _ _ _ _ _ => (ptg_name (show List.Nodup (["_law_way"] : List Str) by decide +kernel) rfl rfl)) (fun _ _ _ _ _ _ => (pts_one (pt_cmp (pc_notN (pv 0))))) (fun _ _ _ _ _ _ => (pv 0))))
      pss_nil)
      (pss_one (ps_if (PW.pt (pw_and (pt_cmpR (op_neE (K := K) rfl (hu_n hr 1)) (pv 6) (pe_lst pa_nil) (nomark _)) (pw_and1 (pt_cmpR (op_eqE (K := K) rfl (hu_n hr 1)) (pe_lc (defScope s_law_round) ["_law_game_here", "_law_ways_here", "_law_sure_here", "_law_k", "_law_found", "_law_at", "_law_led"] ["_law_way", "_law_sure_here"] 1 [2] (pi_list (pv 6)) (fun _ _ _ _ _ _ => (ptg_name (show List.Nodup (["_law_way", "_law_sure_here"] : List Str) by decide +kernel) rfl rfl)) (fun _ _ _ _ _ _ => (pts_one (pt_cmpR op_eq (pe_ix (ixL (K := K) rfl) (pv 1) (pv 0) (fun _ _ => rfl)) (pe_un un_neg pe_int) (nomark _)))) (fun _ _ _ _ _ _ => (pv 0))) (pe_lst pa_nil) (nomark _)))))
      (pss_one (ps_expr (pe_bm PySem.F.plainAttrs_list PySem.F.slot_list_append PySem.F.type_list_append mt_append (pv 4) (pa_cons (pv 5) pa_nil))))
      pss_nil))))
      pss_nil)))
      (pss_one (ps_ret (pv 4))))), ?_⟩
  refine ⟨Nat.zero_le _, fun fa hfa => ?_⟩
  have s1 := same_upd hfa (.lst [])
  refine ⟨_, rfl, g0, _, rfl, .inl (SqL.of (s1 _ _ hg0)), _, rfl, by omega, by omega, for_range (lo := 0) (n := ((gv.length : Nat) : Int).toNat) (fun i σ H2 => ∃ y1 y2 : Option V, σ = [some (.ref g0), some (.ref wa), some (.ref sa), some (.int k), some (.ref fa), y1, y2] ∧ Same H H2 ∧ H2 fa = some (.lst (((rng i).filter (roundB G W S)).map V.int)))
    ⟨_, _, rfl, s1, upd_same⟩ (fun i σ H2 hi h => ?_) (fun σ H2 h => ?_)⟩
  · obtain ⟨y1, y2, rfl, s2, h2⟩ := h
    rw [Int.toNat_natCast, hgl] at hi
    have hp : 0 ≤ ((i : Nat) : Int) ∧ ((i : Nat) : Int) < G.length := by omega
    obtain ⟨row, hrw⟩ : ∃ row, G[i]? = some row := ⟨G[i], by simp⟩
    obtain ⟨t, wr, p1, p2, p3⟩ := hrow i row hrw
    have hrw' : G[((i : Nat) : Int).toNat]? = some row := by rw [Int.toNat_natCast]; exact hrw
    have ehd := hd_at hrw'
    have ewy := wy_at hrw'
    obtain ⟨w1, w2, w3⟩ := hok.2 row (List.mem_of_getElem? hrw)
    have w4 := hne row (List.mem_of_getElem? hrw)
    have hat0 : atI gv (0 + ((i : Nat) : Int)) = some (.ref t) := by rw [Int.zero_add]; exact atI_nat p1
    have hats : atI (D.map V.int) (0 + ((i : Nat) : Int)) = some (V.int (dI D ((i : Nat) : Int))) := by rw [Int.zero_add]; exact dI_ex hDl hp.1 hp.2
    have hatw : atI (om G.length W) (0 + ((i : Nat) : Int)) = some (oW (W ((i : Nat) : Int))) := by rw [Int.zero_add]; exact atI_i hp.1 (om_at hp.1 hp.2)
    have no : ∀ H5 : Hp, H5 fa = some (.lst (((rng i).filter (roundB G W S)).map V.int)) → roundB G W S ((i : Nat) : Int) = false → H5 fa = some (.lst (((rng (i + 1)).filter (roundB G W S)).map V.int)) := fun H5 h5 e => by
      rw [h5, rng_snoc, List.filter_append, List.filter_cons_of_neg (by rw [e]; simp)]; simp
    have yes : roundB G W S ((i : Nat) : Int) = true → ((rng i).filter (roundB G W S)).map V.int ++ [V.int (0 + ((i : Nat) : Int))] = ((rng (i + 1)).filter (roundB G W S)).map V.int := fun e => by
      rw [rng_snoc, List.filter_append, List.filter_cons_of_pos e, List.map_append, Int.zero_add]; rfl
    have hlen : (((rng i).filter (roundB G W S)).map V.int).length ≤ 160 := by
      rw [List.length_map]
      exact Nat.le_trans (List.length_filter_le _ _) (by rw [rng_len]; omega)
    refine (rd_ixv rfl rfl (SqL.of (s2 _ _ hsa)) hats ⟨1, rfl, rfl, _, rfl, ?_⟩)
    refine ite2 (fun c => ?_) (fun c => ?_)
    · have hpS : ((i : Nat) : Int) ∉ S := (hDS _ hp.1 hp.2).mp (by have := of_decide_eq_true c; injection this)
      refine (rd_gix rfl rfl (SqL.of (s2 _ _ hg0)) hat0 (SqT.of (s2 _ _ p2)) (atI_nat (j := 2) rfl) ?_)
      refine ⟨fun σ' H' => Ex2 fun (la : Addr) (L : List Int) => And7 (σ' = [some (.ref g0), some (.ref wa), some (.ref sa), some (.int k), some (.ref fa), some (.int (0 + (i : Nat))), some (.ref la)]) (Same H H') (H' fa = some (.lst (((rng i).filter (roundB G W S)).map V.int))) (H' la = some (.lst (L.map V.int))) (L.length ≤ 40) ((∀ x ∈ L, 0 ≤ x ∧ x < G.length)) (roundB G W S ((i : Nat) : Int) = (!L.isEmpty && L.all fun w => decide (w ∈ S))), ?_, ?_⟩
      · refine (rd_gix rfl rfl (SqL.of (s2 _ _ hg0)) hat0 (SqT.of (s2 _ _ p2)) (atI_nat (j := 0) rfl) ⟨rfl, _, rfl, ?_⟩)
        refine ite2 (fun c2 => ?_) (fun c2 => ?_)
        · have hh : hd G ((i : Nat) : Int) = 0 := by have := of_decide_eq_true c2; injection this with e; rw [ehd]; exact e
          refine (rd_ixv rfl rfl (SqL.of (s2 _ _ hwa)) hatw ⟨(by show 1 ≤ sizeLine; decide), fun l hl => ?_⟩)
          have s3 := s2.trans (same_upd hl (.lst [oW (W ((i : Nat) : Int))]))
          have hl3 : upd H2 l (.lst [oW (W ((i : Nat) : Int))]) l = some (.lst [oW (W ((i : Nat) : Int))]) := upd_same
          have h3 := same_upd hl (.lst [oW (W ((i : Nat) : Int))]) _ _ h2
          generalize upd H2 l (.lst [oW (W ((i : Nat) : Int))]) = H3 at s3 hl3 h3 ⊢
          refine ⟨l, rfl, ⟨_, SqL.of hl3⟩, comp_listD (K := K) (a := l) (xs := [oW (W ((i : Nat) : Int))]) (fun j ys H4 => H4 = H3 ∧ ys = if j = 0 then [] else ((W ((i : Nat) : Int)).toList).map V.int) ⟨rfl, rfl⟩ (by show 1 ≤ sizeLine; decide) (fun j ys H4 hj h => ?_) (fun j x ys H4 hj h => ?_) (fun ys H4 h la hla => ?_)⟩
          · obtain ⟨rfl, rfl⟩ := h
            refine ⟨SqL.of hl3, ?_⟩
            have hj' : j ≤ 1 := hj
            split
            · simp
            · cases W ((i : Nat) : Int) <;> simp <;> omega
          · obtain ⟨rfl, rfl⟩ := h
            have hj0 : j = 0 := by have := (List.getElem?_eq_some_iff.mp hj).1; simp at this; omega
            subst hj0
            have hx : x = oW (W ((i : Nat) : Int)) := by simpa using hj.symm
            subst hx
            cases eW : W ((i : Nat) : Int) with
            | none =>
              refine ⟨_, rfl, _, rfl, ?_⟩
              refine iteF ?_
              exact ⟨rfl, rfl⟩
            | some z =>
              refine ⟨_, rfl, _, rfl, ?_⟩
              refine iteT ?_
              exact ⟨_, rfl, rfl, rfl⟩
          obtain ⟨rfl, rfl⟩ := h
          refine ⟨la, (W ((i : Nat) : Int)).toList, rfl, s3.trans (same_upd hla _), same_upd hla _ _ _ h3, upd_same, ?_, fun x hx => ?_, ?_⟩
          · cases W ((i : Nat) : Int) <;> simp
          · have : W ((i : Nat) : Int) = some x := by
              cases eW : W ((i : Nat) : Int) with
              | none => rw [eW] at hx; cases hx
              | some z => rw [eW] at hx; simp at hx; rw [hx]
            exact wy_in hok.wok (hW _ hp.1 hp.2 x this)
          · unfold roundB
            rw [if_pos hh, decide_eq_true hpS]
            cases W ((i : Nat) : Int) <;> simp
        · have hh : ¬ hd G ((i : Nat) : Int) = 0 := fun e => c2 (decide_eq_true (by rw [← e, ehd]))
          refine ⟨wr, row.2.2, rfl, s2, h2, s2 _ _ p3, w3, w2, ?_⟩
          unfold roundB
          rw [if_neg hh, decide_eq_true hpS, ewy]
          have : row.2.2.isEmpty = false := by cases e : row.2.2 with
            | nil => exact absurd e w4
            | cons _ _ => rfl
          rw [this]; rfl
      rintro σ' H' ⟨la, L, rfl, s3, h3, hla, hLl, hLr, hrb⟩
      refine ⟨_, rfl, Nat.zero_le _, fun e he => ?_⟩
      have s4 := s3.trans (same_upd he (.lst []))
      have hla4 := same_upd he (.lst []) _ _ hla
      have h4 := same_upd he (.lst []) _ _ h3
      have he4 : upd H' e (.lst []) e = some (.lst []) := upd_same
      generalize upd H' e (.lst []) = H4 at s4 hla4 h4 he4 ⊢
      refine ⟨la, e, _, rfl, rfl, SqL.of hla4, SqL.of he4, _, rfl, ?_⟩
      have eem : (L.map V.int).isEmpty = L.isEmpty := by cases L <;> rfl
      rw [eem]
      refine ite2 (fun c2 => ?_) (fun c2 => ?_)
      · have c2' : (!L.isEmpty) = true := c2
        rw [c2', Bool.true_and] at hrb
        refine ⟨_, rfl, la, rfl, ⟨_, SqL.of hla4⟩, comp_listD (K := K) (a := la) (xs := L.map V.int) (fun j ys H5 => H5 = H4 ∧ ys = ((L.take j).filter fun w => decide (w ∉ S)).map V.int) ⟨rfl, rfl⟩ (small (m := 1000) (by rw [List.length_map]; omega)) (fun j ys H5 hj h => ?_) (fun j x ys H5 hj h => ?_) (fun ys H5 h lb hlb => ?_)⟩
        · obtain ⟨rfl, rfl⟩ := h
          exact ⟨SqL.of hla4, by rw [List.length_map]; exact Nat.le_trans (List.length_filter_le _ _) (by simp; omega)⟩
        · obtain ⟨rfl, rfl⟩ := h
          obtain ⟨z, hz, rfl⟩ := int_of_at hj
          obtain ⟨z0, z1⟩ := hLr z (List.mem_of_getElem? hz)
          refine (rd_ixv rfl rfl (SqL.of (s4 _ _ hsa)) (dI_ex hDl z0 z1) ⟨1, rfl, rfl, _, rfl, ?_⟩)
          have hzS := hDS z z0 z1
          refine ite2 (fun c4 => ?_) (fun c4 => ?_)
          · have hzn : z ∉ S := hzS.mp (by have := of_decide_eq_true c4; injection this)
            refine ⟨_, rfl, rfl, ?_⟩
            rw [List.take_add_one, hz, List.filter_append, List.map_append]
            show _ = _ ++ (List.filter (fun w => decide (w ∉ S)) [z]).map V.int
            rw [List.filter_cons_of_pos (p := fun w => decide (w ∉ S)) (decide_eq_true hzn)]; rfl
          · have hzn : ¬ z ∉ S := fun y => c4 (decide_eq_true (by rw [hzS.mpr y]))
            refine ⟨rfl, ?_⟩
            rw [List.take_add_one, hz, List.filter_append, List.map_append]
            show _ = _ ++ (List.filter (fun w => decide (w ∉ S)) [z]).map V.int
            rw [List.filter_cons_of_neg (p := fun w => decide (w ∉ S)) (by simpa using hzn)]; simp
        obtain ⟨rfl, rfl⟩ := h
        rw [List.length_map, List.take_length]
        have s5 := s4.trans (same_upd hlb (.lst ((L.filter fun w => decide (w ∉ S)).map V.int)))
        have hlb5 : upd H5 lb (.lst ((L.filter fun w => decide (w ∉ S)).map V.int)) lb = some (.lst ((L.filter fun w => decide (w ∉ S)).map V.int)) := upd_same
        have h5 := same_upd hlb (.lst ((L.filter fun w => decide (w ∉ S)).map V.int)) _ _ h4
        generalize upd H5 lb (.lst ((L.filter fun w => decide (w ∉ S)).map V.int)) = H6 at s5 hlb5 h5 ⊢
        refine ⟨Nat.zero_le _, fun e2 he2 => ?_⟩
        have s6 := s5.trans (same_upd he2 (.lst []))
        have hlb6 := same_upd he2 (.lst []) _ _ hlb5
        have h6 := same_upd he2 (.lst []) _ _ h5
        have he6 : upd H6 e2 (.lst []) e2 = some (.lst []) := upd_same
        generalize upd H6 e2 (.lst []) = H7 at s6 hlb6 h6 he6 ⊢
        refine ⟨lb, e2, _, rfl, rfl, SqL.of hlb6, SqL.of he6, _, rfl, ?_⟩
        have eall : ((L.filter fun w => decide (w ∉ S)).map V.int).isEmpty = L.all fun w => decide (w ∈ S) := by
          rw [Bool.eq_iff_iff, List.isEmpty_iff, List.map_eq_nil_iff, List.filter_eq_nil_iff, List.all_eq_true]
          constructor
          · intro h x hx
            have := h x hx
            simpa using this
          · intro h x hx
            have := h x hx
            simpa using this
        rw [eall, ← hrb]
        refine ite2 (fun c5 => ?_) (fun c5 => ?_)
        · refine ⟨_, rfl, .inl ⟨rfl, _, SqL.of h6⟩, _, rfl, fa, _, _, rfl, rfl, h6, smlt (m := 1000) (by omega), ?_⟩
          exact ⟨_, _, rfl, s6.put hfa _, by rw [upd_same, yes c5]⟩
        · exact ⟨_, _, rfl, s6, no _ h6 (by simpa using c5)⟩
      · have c2' : (!L.isEmpty) = false := by simpa using c2
        rw [c2', Bool.false_and] at hrb
        refine iteF ?_
        exact ⟨_, _, rfl, s4, no _ h4 hrb⟩
    · have hpS : ¬ ((i : Nat) : Int) ∉ S := fun z => c (decide_eq_true (by rw [(hDS _ hp.1 hp.2).mpr z]))
      refine ⟨_, _, rfl, s2, no _ h2 ?_⟩
      unfold roundB
      rw [decide_eq_false hpS, Bool.false_and]
  · obtain ⟨y1, y2, rfl, s2, h2⟩ := h
    rw [Int.toNat_natCast, hgl] at h2
    exact ⟨_, rfl, q fa H2 s2 hfa h2⟩
def spSure : Sp := fun vs H Q _ => Ex7 fun (v : V) (ga : Addr) (wa : Addr) (G : List Row) (goal : List Int) (X : Int → Option Int) (R : List (List Int)) => And11 (vs = [v, .ref ga, .ref wa]) (rGame H G v) (GOk G) (NE G) (H ga = some (.lst (goal.map V.int))) (H wa = some (.lst (om G.length (wayB G R X)))) (Lay G 0 (fun _ => true) (fun x => decide (x ∈ goal)) R) (LOk G.length R) (PR G R (fun k p => lv R (k + 1) p ∧ hd G p = 0) X) ((∀ p : Int, 0 ≤ p → p < G.length → ∀ z, wayB G R X p = some z → z ∈ wy G p)) (∀ (p : Addr) (D : List Int) (H' : Hp), Same H H' → H p = none → H' p = some (.lst (D.map V.int)) → DepI G.length (lv R) D → Q (.ref p) H')
theorem DepI.neg {n : Nat} {X : Nat → Int → Prop} {D : List Int} (h : DepI n X D) {p : Int} (p0 : 0 ≤ p) (p1 : p < n) : dI D p = -1 ↔ ∀ i, ¬ X i p := by
  rcases h.dd p0 p1 with ⟨i, a, b⟩ | ⟨a, b⟩
  · exact ⟨fun z => by omega, fun z => (z i a).elim⟩
  · exact ⟨fun _ => a, fun _ => b⟩
theorem ok_sure (F : DefAt K mg "_law_sure" s_law_sure ["_law_game_here", "_law_goal_here", "_law_ways_here"]) (T : Txt mg) (D_law_round : Dn P w K mg base "_law_round" 1 ["_law_game_here", "_law_ways_here", "_law_sure_here", "_law_k"] spRound) : Dn P w K mg base "_law_sure" 2 ["_law_game_here", "_law_goal_here", "_law_ways_here"] spSure := by
  have sc := sc_law_sure
  refine F.ok sc (fun vs H Q E h => ?_) (fun f cdv A outer s H vs Q E hr h => ?_)
  · obtain ⟨_, _, _, _, _, _, _, rfl, _⟩ := h; rfl
  obtain ⟨v, ga, wa, G, goal, X, R, rfl, hG, hok, hne, hga, hwa, hL, ⟨hR1, hR2, hR3⟩, hX, hW, q⟩ := h
  obtain ⟨g0, gv, rfl, hg0, hgl, hrow⟩ := game_parts hG
  have h160 := hok.1
  refine ⟨_, (pss_cons (ps_lc (i := 3) (defScope s_law_sure) ["_law_game_here", "_law_goal_here", "_law_ways_here", "_law_sure_here", "_law_more", "_law_k", "_law_at"] ["_law_at", "_law_goal_here"] 1 [1] sc.nd rfl rfl (pi_range1 rfl T.b_range (pa_cons (pe_callB (clLen (K := K) rfl) rfl T.b_len PySem.boot_len (pa_cons (pv 0) pa_nil)) pa_nil)) (fun _ _ _ _ _ _ => (ptg_name (show List.Nodup (["_law_at", "_law_goal_here"] : List Str) by decide +kernel) rfl rfl)) (fun _ _ _ _ _ _ => pts_nil) (fun _ _ _ _ _ _ => (pe_op op_add (pe_un un_neg pe_int) (pe_callTy call_int1 rfl T.b_int PyProof.Rows.boot_int (pa_cons (pe_cmpR (inS (K := K) rfl) (pv 0) (pv 1) rfl) pa_nil)))))
      (pss_cons (ps_set (i := 4) sc.nd rfl (Or.inl rfl) (pe_lst (pa_cons pe_int pa_nil)))
      (pss_cons (ps_set (i := 5) sc.nd rfl (Or.inl rfl) pe_int)
      (pss_cons (ps_while PassesOwn.never (pt_cmpR (op_neE (K := K) rfl (hu_n hr 1)) (pv 4) (pe_lst pa_nil) (nomark _))
      (pss_cons (ps_set (i := 5) sc.nd rfl (Or.inl rfl) (pe_op op_add (pv 5) pe_int))
      (pss_cons (ps_set (i := 4) sc.nd rfl (Or.inl rfl) (pe_dn D_law_round hr (pa_cons (pv 0) (pa_cons (pv 2) (pa_cons (pv 3) (pa_cons (pv 5) pa_nil))))))
      (pss_one (ps_for PassesOwn.never rfl (pi_list (pv 4)) (pg_name (i := 6) sc.nd rfl (Or.inl rfl))
      (pss_one (ps_asg (pv 5) (pg_sub (pv 3) (pv 6) set_list))))))))
      (pss_one (ps_ret (pv 3))))))), ?_⟩
  refine ⟨_, rfl, g0, _, rfl, .inl (SqL.of hg0), _, rfl, by omega, by omega, comp_rangeD (lo := 0) (n := ((gv.length : Nat) : Int).toNat) (fun i ys H2 => H2 = H ∧ ys = (im i fun p => -1 + if decide (p ∈ goal) then 1 else 0).map V.int) ⟨rfl, rfl⟩ (small (m := 1000) (by omega)) (fun i ys H2 _ h => ?_) (fun i ys H2 hi h => ?_) (fun ys H2 h sa hsa => ?_)⟩
  · obtain ⟨rfl, rfl⟩ := h
    rw [List.length_map, im_len]; exact Nat.le_refl _
  · obtain ⟨rfl, rfl⟩ := h
    refine comp_yes ?_
    refine ⟨1, rfl, _, rfl, _, rfl, ga, _, rfl, .inl (SqL.of hga), rfl, flat_ints _, .inr ⟨_, rfl, _, _, rfl, rfl, rfl, ?_⟩⟩
    rw [im_snoc, List.map_append, inV_ints, Int.zero_add]; rfl
  obtain ⟨rfl, rfl⟩ := h
  rw [Int.toNat_natCast, hgl]
  have s1 := same_upd hsa (.lst ((im G.length fun p => -1 + if decide (p ∈ goal) then 1 else 0).map V.int))
  have hsa1 : upd H2 sa (.lst ((im G.length fun p => -1 + if decide (p ∈ goal) then 1 else 0).map V.int)) sa = some (.lst ((im G.length fun p => -1 + if decide (p ∈ goal) then 1 else 0).map V.int)) := upd_same
  generalize upd H2 sa (.lst ((im G.length fun p => -1 + if decide (p ∈ goal) then 1 else 0).map V.int)) = H1 at s1 hsa1 ⊢
  have hD0 : DepI G.length (fun i p => i < 0 + 1 ∧ lv R i p) (im G.length fun p => -1 + if decide (p ∈ goal) then 1 else 0) := by
    refine ⟨im_len _ _, fun p p0 p1 => ⟨_, im_at p0 p1, ?_⟩⟩
    have h0 := hL.zero ⟨p0, p1⟩
    cases e : decide (p ∈ goal) with
    | true => exact .inl ⟨0, ⟨by omega, h0.mpr ⟨rfl, e⟩⟩, rfl⟩
    | false =>
      refine .inr ⟨fun i z => ?_, rfl⟩
      obtain ⟨z1, z2⟩ := z
      have : i = 0 := by omega
      subst this
      rw [(h0.mp z2).2] at e; cases e
  refine ⟨(by show 1 ≤ sizeLine; decide), fun ma hma => ?_⟩
  have s2 := s1.trans (same_upd hma (.lst [V.int 0]))
  have hsa2 := same_upd hma (.lst [V.int 0]) _ _ hsa1
  have hma2 : upd H1 ma (.lst [V.int 0]) ma = some (.lst (([0] : List Int).map V.int)) := upd_same
  have nsm : ma ≠ sa := fun z => by rw [z, hsa1] at hma; cases hma
  generalize upd H1 ma (.lst [V.int 0]) = H3 at s2 hsa2 hma2 ⊢
  refine ⟨fun m σ Hx => Ex5 fun (k : Nat) (ma : Addr) (L : List Int) (D : List Int) (y : Option V) => And8 (σ = [some (.ref g0), some (.ref ga), some (.ref wa), some (.ref sa), some (.ref ma), some (.int k), y]) (Same H2 Hx) (Hx sa = some (.lst (D.map V.int))) (Hx ma = some (.lst (L.map V.int))) (ma ≠ sa) (DepI G.length (fun i p => i < k + 1 ∧ lv R i p) D) (((k = 0 ∧ L ≠ []) ∨ (1 ≤ k ∧ L = nthL R k ∧ k ≤ R.length + 1))) (m = R.length + 2 - k),
    ⟨_, 0, ma, [0], _, _, rfl, s2, hsa2, hma2, nsm, hD0, .inl ⟨rfl, by simp⟩, rfl⟩, ?_⟩
  rintro m σ Hx ⟨k, ma, L, D, y, rfl, sx, hxs, hxm, nsm, hD, hk, rfl⟩
  refine ⟨_, rfl, Nat.zero_le _, fun e he => ?_⟩
  have se := same_upd he (.lst [])
  have he1 : upd Hx e (.lst []) e = some (.lst []) := upd_same
  replace sx := sx.trans se
  replace hxs := se _ _ hxs
  replace hxm := se _ _ hxm
  generalize upd Hx e (.lst []) = Hz at sx hxs hxm he1 ⊢
  refine ⟨ma, e, _, rfl, rfl, SqL.of hxm, SqL.of he1, _, rfl, ?_⟩
  have eem : (L.map V.int).isEmpty = L.isEmpty := by cases L <;> rfl
  rw [eem]
  refine ite2 (fun c => ?_) (fun c => ?_)
  · have hLne : L ≠ [] := fun z => by rw [z] at c; simp at c
    have hkR : k + 1 ≤ R.length ∨ R = [] := by
      rcases hk with ⟨rfl, _⟩ | ⟨h1, h2, _⟩
      · cases R with
        | nil => exact .inr rfl
        | cons _ _ => exact .inl (by simp)
      · refine .inl ?_
        by_cases c9 : k < R.length
        · exact c9
        · exfalso
          unfold nthL at h2
          rw [List.getElem?_eq_none (by omega)] at h2
          exact hLne h2
    have hkm : k + 1 ≤ R.length + 1 := by
      rcases hk with ⟨rfl, _⟩ | ⟨h1, h2, _⟩
      · omega
      · rcases hkR with h | h
        · omega
        · exfalso
          rw [h] at h2
          unfold nthL at h2
          exact hLne (by simpa using h2)
    refine ⟨fun σ' H' => Ex3 fun (ma : Addr) (D : List Int) (y : Option V) => And6 (σ' = [some (.ref g0), some (.ref ga), some (.ref wa), some (.ref sa), some (.ref ma), some (.int ((k + 1 : Nat) : Int)), y]) (Same H2 H') (H' sa = some (.lst (D.map V.int))) (H' ma = some (.lst ((nthL R (k + 1)).map V.int))) (ma ≠ sa) (DepI G.length (fun i p => i < k + 1 + 1 ∧ lv R i p) D), ?_, ?_⟩
    · rintro σ' H' ⟨ma', D', y', rfl, a1, a2, a3, a4, a5⟩
      exact ⟨_, by omega, k + 1, ma', _, D', y', rfl, a1, a2, a3, a4, a5, .inr ⟨by omega, rfl, hkm⟩, rfl⟩
    · refine ⟨_, rfl, _, _, rfl, rfl, ?_⟩
      have ek : ((k : Nat) : Int) + 1 = ((k + 1 : Nat) : Int) := by omega
      refine ⟨_, rfl, _, rfl, _, rfl, _, rfl, _, wa, sa, ((k : Nat) : Int) + 1, G, wayB G R X, (R.take (k + 1)).flatten, D, rfl, mono_game.up sx hG, hok, hne, sx _ _ hwa, hxs, hD.1, fun p p0 p1 => ?_, hW, fun mb Hy sy hmb0 hmb => ?_⟩
      · rw [hD.neg p0 p1, lv_take]
        exact ⟨fun z ⟨j, j1, j2⟩ => z j ⟨j1, j2⟩, fun z i ⟨i1, i2⟩ => z ⟨i, i1, i2⟩⟩
      have eL : (rng G.length).filter (roundB G (wayB G R X) (R.take (k + 1)).flatten) = nthL R (k + 1) := by
        rw [nth_next hL hne (by omega) hkR]
        exact List.filter_congr fun p hp => round_chr hL hne hX (by omega) hkR (mem_rng.mp hp)
      rw [eL] at hmb
      have nmb : mb ≠ sa := fun z => by rw [z, hxs] at hmb0; cases hmb0
      have hys := sy _ _ hxs
      have hLb : (nthL R (k + 1)).length ≤ 160 := by
        rw [← eL]
        exact Nat.le_trans (List.length_filter_le _ _) (by rw [rng_len]; exact h160)
      refine ⟨_, rfl, mb, rfl, ⟨_, SqL.of hmb⟩, for_list (K := K) (a := mb) (xs := (nthL R (k + 1)).map V.int) (fun j σ H5 => Ex2 fun (y : Option V) (D : List Int) => And5 (σ = [some (.ref g0), some (.ref ga), some (.ref wa), some (.ref sa), some (.ref mb), some (.int (((k : Nat) : Int) + 1)), y]) (Same H2 H5) (H5 mb = some (.lst ((nthL R (k + 1)).map V.int))) (H5 sa = some (.lst (D.map V.int))) (DepI G.length (fun i p => (i < k + 1 ∧ lv R i p) ∨ (i = k + 1 ∧ p ∈ (nthL R (k + 1)).take j)) D))
        ⟨_, D, rfl, sx.trans sy, hmb, hys, hD.congr fun i p => by simp⟩ (fun j σ H5 _ h => ?_) (fun j x σ H5 hj h => ?_) (fun σ H5 h => ?_)⟩
      · obtain ⟨_, _, _, _, hm5, _⟩ := h
        exact SqL.of hm5
      · obtain ⟨y, D, rfl, s5, hm5, h5, hD5⟩ := h
        obtain ⟨z, hz, rfl⟩ := int_of_at hj
        obtain ⟨z0, z1⟩ := hL.rg (lv_nth.mpr (List.mem_of_getElem? hz))
        refine ⟨_, rfl, _, rfl, _, rfl, sa, _, _, z.toNat, rfl, rfl, h5, ?_, ?_⟩
        · unfold ixN; rw [List.length_map, hD5.1, if_pos z0, if_pos z1]
        · refine ⟨_, D.set z.toNat ((k + 1 : Nat) : Int), rfl, s5.put hsa _, by rw [upd_ne nmb]; exact hm5, by rw [upd_same, List.map_set, ← ek], (hD5.set z0 z1).congr fun i p => ?_⟩
          rw [mem_take_snoc hz]
          constructor
          · rintro ((h | ⟨h1, h2⟩) | ⟨h1, h2⟩)
            · exact .inl h
            · exact .inr ⟨h1, .inl h2⟩
            · exact .inr ⟨h1, .inr h2⟩
          · rintro (h | ⟨h1, h2 | h2⟩)
            · exact .inl (.inl h)
            · exact .inl (.inr ⟨h1, h2⟩)
            · exact .inr ⟨h1, h2⟩
      · obtain ⟨y, D, rfl, s5, hm5, h5, hD5⟩ := h
        rw [List.length_map, List.take_length] at hD5
        refine ⟨mb, D, _, rfl, s5, h5, hm5, nmb, hD5.congr fun i p => ?_⟩
        constructor
        · rintro (⟨h1, h2⟩ | ⟨rfl, h2⟩)
          · exact ⟨by omega, h2⟩
          · exact ⟨by omega, lv_nth.mpr h2⟩
        · rintro ⟨h1, h2⟩
          by_cases c : i < k + 1
          · exact .inl ⟨c, h2⟩
          · have : i = k + 1 := by omega
            subst this
            exact .inr ⟨rfl, lv_nth.mp h2⟩
  · have hL0 : L = [] := by
      cases L with
      | nil => rfl
      | cons _ _ => exact absurd rfl c
    have hkR : R.length ≤ k := by
      rcases hk with ⟨_, h⟩ | ⟨h1, h2, _⟩
      · exact absurd hL0 h
      · by_cases c9 : k < R.length
        · exfalso
          have e : R[k]? = some R[k] := by simp
          have := (hR3 _ (List.mem_of_getElem? e)).1
          unfold nthL at h2
          rw [e] at h2
          exact this (by rw [← hL0, h2]; rfl)
        · omega
    exact ⟨_, rfl, q sa D Hz sx hsa hxs (hD.congr fun i p => ⟨fun z => z.2, fun z => ⟨by have := lv_lt z; omega, z⟩⟩)⟩
theorem filt_head {l : List Int} {v : Int} (h : l.head? = some v) : ∃ us, l = v :: us := by
  cases l with
  | nil => cases h
  | cons u us =>
    have : u = v := by simpa using h
    exact ⟨us, by rw [this]⟩
def spWD : Sp := fun vs H Q _ => Ex11 fun (t : Addr) (wr : Addr) (sa : Addr) (ga : Addr) (p : Int) (row : Row) (G : List Row) (want : Int → Bool) (D : List Int) (X : Int → Option Int) (R : List (List Int)) => And13 (vs = [.ref t, .int p, .ref sa, .ref ga]) ((0 ≤ p ∧ p < G.length)) (G[p.toNat]? = some row) (H t = some (.tup [.int row.1, .int row.2.1, .ref wr])) (H wr = some (.lst (row.2.2.map V.int))) (GOk G) (NE G) (H01 G) (H sa = some (.lst (D.map V.int))) (DepI G.length (lv R) D) (Lay G 0 (fun _ => true) want R) (PR G R (fun k p => lv R (k + 1) p ∧ hd G p = 0) X) (∀ H' : Hp, Same H H' → Q (oW (wayB G R X p)) H')
theorem ok_wd (F : DefAt K mg "_law_way_due" s_law_way_due ["_law_place", "_law_at", "_law_sure_here", "_law_goal_here"]) (T : Txt mg) : Dn P w K mg base "_law_way_due" 1 ["_law_place", "_law_at", "_law_sure_here", "_law_goal_here"] spWD := by
  have sc := sc_law_way_due
  refine F.ok sc (fun vs H Q E h => ?_) (fun f cdv A outer s H vs Q E hr h => ?_)
  · obtain ⟨_, _, _, _, _, _, _, _, _, _, _, rfl, _⟩ := h; rfl
  obtain ⟨t, wr, sa, ga, p, row, G, want, D, X, R, rfl, hp, hrw, p2, p3, hok, hne, h01, hsa, hD, hL, hX, q⟩ := h
  have h160 := hok.1
  have ehd := hd_at hrw
  have ewy := wy_at hrw
  obtain ⟨w1, w2, w3⟩ := hok.2 row (List.mem_of_getElem? hrw)
  have hats := dI_ex hD.1 hp.1 hp.2
  have hdd := hD.dd hp.1 hp.2
  refine ⟨_, (pss_cons (ps_if (PW.pt (pw_and (pt_cmpR op_eq (pe_ix (ixT (K := K) rfl) (pv 0) pe_int (fun _ _ => rfl)) pe_int (nomark _)) (pw_and1 (pt_cmpR op_gt (pe_ix (ixL (K := K) rfl) (pv 2) (pv 1) (fun _ _ => rfl)) pe_int (nomark _)))))
      (pss_one (ps_ret (pe_ix (ixL (K := K) rfl) (pe_lc (defScope s_law_way_due) ["_law_place", "_law_at", "_law_sure_here", "_law_goal_here"] ["_law_way", "_law_at", "_law_sure_here"] 1 [1, 2] (pi_list (pe_ix (ixT (K := K) rfl) (pv 0) pe_int (fun _ _ => rfl))) (fun _ _ _ _ _ _ => (ptg_name (show List.Nodup (["_law_way", "_law_at", "_law_sure_here"] : List Str) by decide +kernel) rfl rfl)) (fun _ _ _ _ _ _ => (pts_one (pt_cmpR op_eq (pe_ix (ixL (K := K) rfl) (pv 2) (pv 0) (fun _ _ => rfl)) (pe_op op_sub (pe_ix (ixL (K := K) rfl) (pv 2) (pv 1) (fun _ _ => rfl)) pe_int) (nomark _)))) (fun _ _ _ _ _ _ => (pv 0))) pe_int (fun _ _ => rfl))))
      pss_nil)
      (pss_cons (ps_if (PW.pt (pw_and (pt_cmpR op_eq (pe_ix (ixT (K := K) rfl) (pv 0) pe_int (fun _ _ => rfl)) pe_int (nomark _)) (pw_and1 (pt_cmpR op_eq (pe_ix (ixL (K := K) rfl) (pv 2) (pv 1) (fun _ _ => rfl)) (pe_un un_neg pe_int) (nomark _)))))
      (pss_one (ps_ret (pe_ix (ixL (K := K) rfl) (pe_lc (defScope s_law_way_due) ["_law_place", "_law_at", "_law_sure_here", "_law_goal_here"] ["_law_way", "_law_sure_here"] 1 [2] (pi_list (pe_ix (ixT (K := K) rfl) (pv 0) pe_int (fun _ _ => rfl))) (fun _ _ _ _ _ _ => (ptg_name (show List.Nodup (["_law_way", "_law_sure_here"] : List Str) by decide +kernel) rfl rfl)) (fun _ _ _ _ _ _ => (pts_one (pt_cmpR op_eq (pe_ix (ixL (K := K) rfl) (pv 1) (pv 0) (fun _ _ => rfl)) (pe_un un_neg pe_int) (nomark _)))) (fun _ _ _ _ _ _ => (pv 0))) pe_int (fun _ _ => rfl))))
      pss_nil)
      (pss_one (ps_ret pe_non)))), ?_⟩
  refine (rd_tixc rfl (SqT.of p2) (atI_nat (j := 0) rfl) ⟨rfl, _, rfl, ?_⟩)
  have second : ¬ (hd G p = 0 ∧ ∃ j, lv R (j + 1) p) → hd G p = 1 ∧ p ∈ rest G R ∨ ¬ (hd G p = 1 ∧ p ∈ rest G R) ∧ wayB G R X p = none := fun hno => by
    by_cases c : hd G p = 1 ∧ p ∈ rest G R
    · exact .inl c
    · refine .inr ⟨c, ?_⟩
      rcases hd01 h01 hp with h | h
      · exact wayB_0n hX hp h fun j z => hno ⟨h, j, z⟩
      · exact wayB_1n hX hp h fun z => c ⟨h, z⟩
  have rest1 : ∀ Hx : Hp, Hx = H → ¬ (hd G p = 0 ∧ ∃ j, lv R (j + 1) p) → True := fun _ _ _ => trivial
  refine ite2 (fun c => ?_) (fun c => ?_)
  · have hh : hd G p = 0 := by have := of_decide_eq_true c; injection this with e; rw [ehd]; exact e
    refine (rd_ixv rfl rfl (SqL.of hsa) hats ⟨_, _, rfl, rfl, _, rfl, ?_⟩)
    refine ite2 (fun c2 => ?_) (fun c2 => ?_)
    · have c2' : 0 < dI D p := of_decide_eq_true c2
      obtain ⟨j, hlj, ej⟩ : ∃ j : Nat, lv R (j + 1) p ∧ dI D p = ((j + 1 : Nat) : Int) := by
        rcases hdd with ⟨k', a, b⟩ | ⟨_, b⟩
        · obtain ⟨k, rfl⟩ : ∃ k, k' = k + 1 := ⟨k' - 1, by omega⟩
          exact ⟨k, a, b⟩
        · omega
      obtain ⟨v, e1, e2, _, _⟩ := wayB_0 hL hX hh hlj
      unfold pickW at e2
      have eflt : (row.2.2.filter fun x => decide (V.int (dI D x) = V.int (dI D p - 1))) = (wy G p).filter fun w => decide (w ∈ nthL R j) := by
        rw [ewy]
        refine List.filter_congr fun x hx => ?_
        obtain ⟨x0, x1⟩ := w2 x hx
        rw [Bool.eq_iff_iff, decide_eq_true_eq, decide_eq_true_eq, ← lv_nth]
        rcases hD.dd x0 x1 with ⟨k', a, b⟩ | ⟨a, b⟩
        · rw [b]
          constructor
          · intro e; injection e with e
            have : k' = j := by omega
            subst this; exact a
          · intro e
            have := lv_one hL.nd a e
            subst this
            congr 1; omega
        · rw [b]
          constructor
          · intro e; injection e with e; omega
          · intro e; exact (a _ e).elim
      obtain ⟨us, hus⟩ := filt_head e2
      refine (rd_tixc rfl (SqT.of p2) (atI_nat (j := 2) rfl) ⟨wr, rfl, ⟨_, SqL.of p3⟩, comp_listD (K := K) (a := wr) (xs := row.2.2.map V.int) (fun k ys H3 => H3 = H ∧ ys = ((row.2.2.take k).filter fun x => decide (V.int (dI D x) = V.int (dI D p - 1))).map V.int) ⟨rfl, rfl⟩ (small (m := 1000) (by rw [List.length_map]; omega)) (fun k ys H3 hk h => ?_) (fun k x ys H3 hk h => ?_) (fun ys H3 h la hla => ?_)⟩)
      · obtain ⟨rfl, rfl⟩ := h
        exact ⟨SqL.of p3, by rw [List.length_map]; exact Nat.le_trans (List.length_filter_le _ _) (by simp; omega)⟩
      · obtain ⟨rfl, rfl⟩ := h
        obtain ⟨z, hz, rfl⟩ := int_of_at hk
        obtain ⟨z0, z1⟩ := w2 z (List.mem_of_getElem? hz)
        refine (rd_ixv rfl rfl (SqL.of hsa) (dI_ex hD.1 z0 z1) (rd_ixv rfl rfl (SqL.of hsa) hats ⟨_, _, rfl, rfl, rfl, _, rfl, ?_⟩))
        refine ite2 (fun c4 => ?_) (fun c4 => ?_)
        · refine ⟨_, rfl, rfl, ?_⟩
          rw [List.take_add_one, hz, List.filter_append, List.map_append]
          show _ = _ ++ (List.filter (fun x => decide (V.int (dI D x) = V.int (dI D p - 1))) [z]).map V.int
          rw [List.filter_cons_of_pos (p := fun x => decide (V.int (dI D x) = V.int (dI D p - 1))) c4]; rfl
        · refine ⟨rfl, ?_⟩
          rw [List.take_add_one, hz, List.filter_append, List.map_append]
          show _ = _ ++ (List.filter (fun x => decide (V.int (dI D x) = V.int (dI D p - 1))) [z]).map V.int
          rw [List.filter_cons_of_neg (p := fun x => decide (V.int (dI D x) = V.int (dI D p - 1))) c4]; simp
      obtain ⟨rfl, rfl⟩ := h
      rw [List.length_map, List.take_length, eflt, hus]
      refine ⟨la, _, _, _, rfl, rfl, SqL.of upd_same, atI_nat (j := 0) rfl, ?_⟩
      have h9 := q _ (same_upd hla (.lst ((v :: us).map V.int)))
      rw [e1] at h9; exact h9
    · have hno : ¬ (hd G p = 0 ∧ ∃ j, lv R (j + 1) p) := fun ⟨_, j, z⟩ => c2 (decide_eq_true (by
        rcases hdd with ⟨k', a, b⟩ | ⟨a, _⟩
        · have := lv_one hL.nd a z
          omega
        · exact (a _ z).elim))
      refine (rd_tixc rfl (SqT.of p2) (atI_nat (j := 0) rfl) ⟨rfl, _, rfl, ?_⟩)
      refine ite2 (fun c3 => ?_) (fun c3 => ?_)
      · exfalso
        have := of_decide_eq_true c3; injection this with e
        rw [ehd] at hh; omega
      · refine iteF ?_
        rcases second hno with ⟨z, _⟩ | ⟨_, e⟩
        · omega
        · have h9 := q _ (Same.refl _)
          rw [e] at h9; exact h9
  · have hh : ¬ hd G p = 0 := fun e => c (decide_eq_true (by rw [← e, ehd]))
    have hh1 : hd G p = 1 := (hd01 h01 hp).resolve_left hh
    refine iteF ?_
    refine (rd_tixc rfl (SqT.of p2) (atI_nat (j := 0) rfl) ⟨rfl, _, rfl, ?_⟩)
    refine ite2 (fun c3 => ?_) (fun c3 => ?_)
    · refine (rd_ixv rfl rfl (SqL.of hsa) hats ⟨1, rfl, rfl, _, rfl, ?_⟩)
      refine ite2 (fun c4 => ?_) (fun c4 => ?_)
      · have hr1 : p ∈ rest G R := rest_mem.mpr ⟨hp, (hD.neg hp.1 hp.2).mp (by have := of_decide_eq_true c4; injection this)⟩
        obtain ⟨v, e1, e2, _, _⟩ := wayB_1 hL hok.wok hne hX hh1 hr1
        have eflt : (row.2.2.filter fun x => decide (V.int (dI D x) = V.int (-1))) = (wy G p).filter fun w => decide (w ∈ rest G R) := by
          rw [ewy]
          refine List.filter_congr fun x hx => ?_
          obtain ⟨x0, x1⟩ := w2 x hx
          rw [Bool.eq_iff_iff, decide_eq_true_eq, decide_eq_true_eq, rest_mem, ← hD.neg x0 x1]
          exact ⟨fun e => by injection e with e; exact ⟨⟨x0, x1⟩, e⟩, fun e => by rw [e.2]⟩
        obtain ⟨us, hus⟩ := filt_head e2
        refine (rd_tixc rfl (SqT.of p2) (atI_nat (j := 2) rfl) ⟨wr, rfl, ⟨_, SqL.of p3⟩, comp_listD (K := K) (a := wr) (xs := row.2.2.map V.int) (fun k ys H3 => H3 = H ∧ ys = ((row.2.2.take k).filter fun x => decide (V.int (dI D x) = V.int (-1))).map V.int) ⟨rfl, rfl⟩ (small (m := 1000) (by rw [List.length_map]; omega)) (fun k ys H3 hk h => ?_) (fun k x ys H3 hk h => ?_) (fun ys H3 h la hla => ?_)⟩)
        · obtain ⟨rfl, rfl⟩ := h
          exact ⟨SqL.of p3, by rw [List.length_map]; exact Nat.le_trans (List.length_filter_le _ _) (by simp; omega)⟩
        · obtain ⟨rfl, rfl⟩ := h
          obtain ⟨z, hz, rfl⟩ := int_of_at hk
          obtain ⟨z0, z1⟩ := w2 z (List.mem_of_getElem? hz)
          refine (rd_ixv rfl rfl (SqL.of hsa) (dI_ex hD.1 z0 z1) ⟨1, rfl, rfl, _, rfl, ?_⟩)
          refine ite2 (fun c4 => ?_) (fun c4 => ?_)
          · refine ⟨_, rfl, rfl, ?_⟩
            rw [List.take_add_one, hz, List.filter_append, List.map_append]
            show _ = _ ++ (List.filter (fun x => decide (V.int (dI D x) = V.int (-1))) [z]).map V.int
            rw [List.filter_cons_of_pos (p := fun x => decide (V.int (dI D x) = V.int (-1))) c4]; rfl
          · refine ⟨rfl, ?_⟩
            rw [List.take_add_one, hz, List.filter_append, List.map_append]
            show _ = _ ++ (List.filter (fun x => decide (V.int (dI D x) = V.int (-1))) [z]).map V.int
            rw [List.filter_cons_of_neg (p := fun x => decide (V.int (dI D x) = V.int (-1))) c4]; simp
        obtain ⟨rfl, rfl⟩ := h
        rw [List.length_map, List.take_length, eflt, hus]
        refine ⟨la, _, _, _, rfl, rfl, SqL.of upd_same, atI_nat (j := 0) rfl, ?_⟩
        have h9 := q _ (same_upd hla (.lst ((v :: us).map V.int)))
        rw [e1] at h9; exact h9
      · have hr1 : p ∉ rest G R := fun z => c4 (decide_eq_true (by rw [(hD.neg hp.1 hp.2).mpr (rest_mem.mp z).2]))
        have h9 := q _ (Same.refl _)
        rw [wayB_1n hX hp hh1 hr1] at h9; exact h9
    · exfalso
      refine c3 (decide_eq_true ?_)
      rw [← ehd, hh1]
def hf (R : List (List Int)) (p : Int) : Int := if decide (p ∈ R.flatten) then 0 else 1
def spWalkB : Sp := fun vs H Q _ => Ex8 fun (v : V) (ga : Addr) (ha : Addr) (wa : Addr) (G : List Row) (goal : List Int) (X : Int → Option Int) (R : List (List Int)) => And13 (vs = [v, .ref ga, .ref ha, .ref wa]) (rGame H G v) (GOk G) (NE G) (H01 G) (H ga = some (.lst (goal.map V.int))) (H ha = some (.lst ((im G.length (hf R)).map V.int))) (H wa = some (.lst (om G.length (wayB G R X)))) (Lay G 0 (fun _ => true) (fun x => decide (x ∈ goal)) R) (LOk G.length R) (PR G R (fun k p => lv R (k + 1) p ∧ hd G p = 0) X) ((∀ p : Int, 0 ≤ p → p < G.length → ∀ z, wayB G R X p = some z → z ∈ wy G p)) (∀ H' : Hp, Same H H' → Q (.bl true) H')
theorem ok_walked (F : DefAt K mg "_law_walked" s_law_walked ["_law_game_here", "_law_goal_here", "_law_won", "_law_ways_here"]) (T : Txt mg) (D_law_sure : Dn P w K mg base "_law_sure" 2 ["_law_game_here", "_law_goal_here", "_law_ways_here"] spSure) (D_law_way_due : Dn P w K mg base "_law_way_due" 1 ["_law_place", "_law_at", "_law_sure_here", "_law_goal_here"] spWD) : Dn P w K mg base "_law_walked" 3 ["_law_game_here", "_law_goal_here", "_law_won", "_law_ways_here"] spWalkB := by
  have sc := sc_law_walked
  refine F.ok sc (fun vs H Q E h => ?_) (fun f cdv A outer s H vs Q E hr h => ?_)
  · obtain ⟨_, _, _, _, _, _, _, _, rfl, _⟩ := h; rfl
  obtain ⟨v, ga, ha, wa, G, goal, X, R, rfl, hG, hok, hne, h01, hga, hha, hwa, hL, hLok, hX, hW, q⟩ := h
  obtain ⟨g0, gv, rfl, hg0, hgl, hrow⟩ := game_parts hG
  have h160 := hok.1
  refine ⟨_, (pss_cons (ps_set (i := 4) sc.nd rfl (Or.inr rfl) (pe_dn D_law_sure hr (pa_cons (pv 0) (pa_cons (pv 1) (pa_cons (pv 3) pa_nil)))))
      (pss_cons (ps_for PassesOwn.never rfl (pi_range1 rfl T.b_range (pa_cons (pe_callB (clLen (K := K) rfl) rfl T.b_len PySem.boot_len (pa_cons (pv 0) pa_nil)) pa_nil)) (pg_name (i := 5) sc.nd rfl (Or.inl rfl))
      (pss_cut (ps_if (pt_cmpR op_ne (pe_ix (ixL (K := K) rfl) (pv 2) (pv 5) (fun _ _ => rfl)) (pe_callTy call_int1 rfl T.b_int PyProof.Rows.boot_int (pa_cons (pe_cmpR op_eq (pe_ix (ixL (K := K) rfl) (pv 4) (pv 5) (fun _ _ => rfl)) (pe_un un_neg pe_int) (nomark _)) pa_nil)) (nomark _))
      (pss_one (ps_ret pe_bl))
      pss_nil)
      (pss_cut (ps_if (pt_cmpR op_eq (pe_ix (ixL (K := K) rfl) (pv 4) (pv 5) (fun _ _ => rfl)) (pe_un un_neg pe_int) (nomark _))
      (pss_cons (ps_lc (i := 6) (defScope s_law_walked) ["_law_game_here", "_law_goal_here", "_law_won", "_law_ways_here", "_law_sure_here", "_law_at", "_law_out", "_law_nearest"] ["_law_way", "_law_sure_here"] 1 [4] sc.nd rfl rfl (pi_list (pe_ix (ixT (K := K) rfl) (pe_ix (ixL (K := K) rfl) (pv 0) (pv 5) (fun _ _ => rfl)) pe_int (fun _ _ => rfl))) (fun _ _ _ _ _ _ => (ptg_name (show List.Nodup (["_law_way", "_law_sure_here"] : List Str) by decide +kernel) rfl rfl)) (fun _ _ _ _ _ _ => (pts_one (pt_cmpR op_ne (pe_ix (ixL (K := K) rfl) (pv 1) (pv 0) (fun _ _ => rfl)) (pe_un un_neg pe_int) (nomark _)))) (fun _ _ _ _ _ _ => (pv 0)))
      (pss_one (ps_if (PW.pt (pw_or (PW.pt (pw_and (pt_cmpR op_eq (pe_ix (ixT (K := K) rfl) (pe_ix (ixL (K := K) rfl) (pv 0) (pv 5) (fun _ _ => rfl)) pe_int (fun _ _ => rfl)) pe_int (nomark _)) (pw_and1 (pt_cmpR (op_neE (K := K) rfl (hu_n hr 1)) (pv 6) (pe_lst pa_nil) (nomark _))))) (pw_or1 (PW.pt (pw_and (pt_cmpR op_eq (pe_ix (ixT (K := K) rfl) (pe_ix (ixL (K := K) rfl) (pv 0) (pv 5) (fun _ _ => rfl)) pe_int (fun _ _ => rfl)) pe_int (nomark _)) (pw_and1 (pt_cmpR op_eq (pe_callB (clLen (K := K) rfl) rfl T.b_len PySem.boot_len (pa_cons (pv 6) pa_nil)) (pe_callB (clLen (K := K) rfl) rfl T.b_len PySem.boot_len (pa_cons (pe_ix (ixT (K := K) rfl) (pe_ix (ixL (K := K) rfl) (pv 0) (pv 5) (fun _ _ => rfl)) pe_int (fun _ _ => rfl)) pa_nil)) (nomark _))))))))
      (pss_one (ps_ret pe_bl))
      pss_nil)))
      pss_nil)
      (pss_cons (ps_lc (i := 7) (defScope s_law_walked) ["_law_game_here", "_law_goal_here", "_law_won", "_law_ways_here", "_law_sure_here", "_law_at", "_law_out", "_law_nearest"] ["_law_way", "_law_sure_here"] 1 [4] sc.nd rfl rfl (pi_list (pe_ix (ixT (K := K) rfl) (pe_ix (ixL (K := K) rfl) (pv 0) (pv 5) (fun _ _ => rfl)) pe_int (fun _ _ => rfl))) (fun _ _ _ _ _ _ => (ptg_name (show List.Nodup (["_law_way", "_law_sure_here"] : List Str) by decide +kernel) rfl rfl)) (fun _ _ _ _ _ _ => (pts_one (pt_cmpR op_ne (pe_ix (ixL (K := K) rfl) (pv 1) (pv 0) (fun _ _ => rfl)) (pe_un un_neg pe_int) (nomark _)))) (fun _ _ _ _ _ _ => (pe_ix (ixL (K := K) rfl) (pv 1) (pv 0) (fun _ _ => rfl))))
      (pss_cut (ps_if (PW.pt (pw_and (pt_cmpR op_eq (pe_ix (ixT (K := K) rfl) (pe_ix (ixL (K := K) rfl) (pv 0) (pv 5) (fun _ _ => rfl)) pe_int (fun _ _ => rfl)) pe_int (nomark _)) (pw_and (pt_cmpR op_gt (pe_ix (ixL (K := K) rfl) (pv 4) (pv 5) (fun _ _ => rfl)) pe_int (nomark _)) (pw_and1 (pt_cmpR op_ne (pe_callB (call_minL rfl) rfl T.b_min PyProof.Rows.boot_min (pa_cons (pv 7) pa_nil)) (pe_op op_sub (pe_ix (ixL (K := K) rfl) (pv 4) (pv 5) (fun _ _ => rfl)) pe_int) (nomark _))))))
      (pss_one (ps_ret pe_bl))
      pss_nil)
      (pss_one (ps_if (pt_cmpR op_ne (pe_ix (ixL (K := K) rfl) (pv 3) (pv 5) (fun _ _ => rfl)) (pe_dn D_law_way_due hr (pa_cons (pe_ix (ixL (K := K) rfl) (pv 0) (pv 5) (fun _ _ => rfl)) (pa_cons (pv 5) (pa_cons (pv 4) (pa_cons (pv 1) pa_nil))))) (nomark _))
      (pss_one (ps_ret pe_bl))
      pss_nil)))))))
      (pss_one (ps_ret pe_bl)))), ?_⟩
  refine ⟨_, rfl, _, rfl, _, rfl, _, ga, wa, G, goal, X, R, rfl, hG, hok, hne, hga, hwa, hL, hLok, hX, hW, fun sa D H1 s1 _ hsa hD => ?_⟩
  refine ⟨_, rfl, g0, _, rfl, .inl (SqL.of (s1 _ _ hg0)), _, rfl, by omega, by omega, for_range (lo := 0) (n := ((gv.length : Nat) : Int).toNat) (fun i σ H2 => Same H1 H2 ∧ ∃ y1 y2 y3 : Option V, σ = [some (.ref g0), some (.ref ga), some (.ref ha), some (.ref wa), some (.ref sa), y1, y2, y3])
    ⟨Same.refl _, _, _, _, rfl⟩ (fun i σ H2 hi h => ?_) (fun σ H2 h => ?_)⟩
  · obtain ⟨s2, y1, y2, y3, rfl⟩ := h
    rw [Int.toNat_natCast, hgl] at hi
    have hp : 0 ≤ ((i : Nat) : Int) ∧ ((i : Nat) : Int) < G.length := by omega
    have s02 := s1.trans s2
    have hsa2 := s2 _ _ hsa
    have hneg := hD.neg hp.1 hp.2
    have hdd := hD.dd hp.1 hp.2
    obtain ⟨row, hrw⟩ : ∃ row, G[i]? = some row := ⟨G[i], by simp⟩
    obtain ⟨t, wr, p1, p2, p3⟩ := hrow i row hrw
    have hrw' : G[((i : Nat) : Int).toNat]? = some row := by rw [Int.toNat_natCast]; exact hrw
    have ehd := hd_at hrw'
    have ewy := wy_at hrw'
    obtain ⟨w1, w2, w3⟩ := hok.2 row (List.mem_of_getElem? hrw)
    have w4 := hne row (List.mem_of_getElem? hrw)
    have hat0 : atI gv (0 + ((i : Nat) : Int)) = some (.ref t) := by rw [Int.zero_add]; exact atI_nat p1
    have hath : atI ((im G.length (hf R)).map V.int) (0 + ((i : Nat) : Int)) = some (V.int (hf R ((i : Nat) : Int))) := by rw [Int.zero_add]; exact atI_i hp.1 (by rw [List.getElem?_map, im_at hp.1 hp.2]; rfl)
    have hats : atI (D.map V.int) (0 + ((i : Nat) : Int)) = some (V.int (dI D ((i : Nat) : Int))) := by rw [Int.zero_add]; exact dI_ex hD.1 hp.1 hp.2
    have hatw : atI (om G.length (wayB G R X)) (0 + ((i : Nat) : Int)) = some (oW (wayB G R X ((i : Nat) : Int))) := by rw [Int.zero_add]; exact atI_i hp.1 (om_at hp.1 hp.2)
    have ehf : hf R ((i : Nat) : Int) = if decide (V.int (dI D ((i : Nat) : Int)) = V.int (-1)) then 1 else 0 := by
      unfold hf
      by_cases c : dI D ((i : Nat) : Int) = -1
      · have : ¬ ((i : Nat) : Int) ∈ R.flatten := fun z => by obtain ⟨k, hk⟩ := lv_flat.mp z; exact hneg.mp c k hk
        rw [decide_eq_false this, c, decide_eq_true rfl]; rfl
      · have : ((i : Nat) : Int) ∈ R.flatten := Classical.byContradiction fun z => c (hneg.mpr fun k hk => z (lv_flat.mpr ⟨k, hk⟩))
        rw [decide_eq_true this, decide_eq_false (fun z => c (by injection z))]; rfl
    refine ⟨fun σ' H' => H2 = H' ∧ σ' = [some (.ref g0), some (.ref ga), some (.ref ha), some (.ref wa), some (.ref sa), some (.int (0 + (i : Nat))), y2, y3], ?_, ?_⟩
    · refine (rd_ixv rfl rfl (SqL.of (s02 _ _ hha)) hath (rd_ixv rfl rfl (SqL.of hsa2) hats ⟨1, rfl, rfl, .inr ⟨_, rfl, rfl, _, rfl, ?_⟩⟩))
      refine ite2 (fun c => ?_) (fun c => ?_)
      · exfalso; rw [ehf] at c; simp at c
      · exact ⟨rfl, rfl⟩
    rintro σ' H' ⟨rfl, rfl⟩
    refine ⟨fun σ' H' => Same H1 H' ∧ ∃ y : Option V, σ' = [some (.ref g0), some (.ref ga), some (.ref ha), some (.ref wa), some (.ref sa), some (.int (0 + (i : Nat))), y, y3], ?_, ?_⟩
    · refine (rd_ixv rfl rfl (SqL.of hsa2) hats ⟨1, rfl, rfl, _, rfl, ?_⟩)
      refine ite2 (fun c1 => ?_) (fun c1 => ?_)
      · have hrest : ((i : Nat) : Int) ∈ rest G R := rest_mem.mpr ⟨hp, hneg.mp (by have := of_decide_eq_true c1; injection this)⟩
        refine (rd_gix rfl rfl (SqL.of (s02 _ _ hg0)) hat0 (SqT.of (s02 _ _ p2)) (atI_nat (j := 2) rfl) ⟨wr, rfl, ⟨_, SqL.of (s02 _ _ p3)⟩, comp_listD (K := K) (a := wr) (xs := row.2.2.map V.int) (fun k ys H3 => H3 = H2 ∧ ys = ((row.2.2.take k).filter fun x => decide (x ∉ rest G R)).map V.int) ⟨rfl, rfl⟩ (small (m := 1000) (by rw [List.length_map]; omega)) (fun k ys H3 hk h => ?_) (fun k x ys H3 hk h => ?_) (fun ys H3 h la hla => ?_)⟩)
        · obtain ⟨rfl, rfl⟩ := h
          exact ⟨SqL.of (s02 _ _ p3), by rw [List.length_map]; exact Nat.le_trans (List.length_filter_le _ _) (by simp; omega)⟩
        · obtain ⟨rfl, rfl⟩ := h
          obtain ⟨z, hz, rfl⟩ := int_of_at hk
          obtain ⟨z0, z1⟩ := w2 z (List.mem_of_getElem? hz)
          have hzr : dI D z = -1 ↔ z ∈ rest G R := by rw [hD.neg z0 z1, rest_mem]; exact ⟨fun e => ⟨⟨z0, z1⟩, e⟩, fun e => e.2⟩
          refine (rd_ixv rfl rfl (SqL.of hsa2) (dI_ex hD.1 z0 z1) ⟨1, rfl, rfl, _, rfl, ?_⟩)
          refine ite2 (fun c4 => ?_) (fun c4 => ?_)
          · have hzn : z ∉ rest G R := fun y => by rw [hzr.mpr y] at c4; simp at c4
            refine ⟨_, rfl, rfl, ?_⟩
            rw [List.take_add_one, hz, List.filter_append, List.map_append]
            show _ = _ ++ (List.filter (fun x => decide (x ∉ rest G R)) [z]).map V.int
            rw [List.filter_cons_of_pos (p := fun x => decide (x ∉ rest G R)) (decide_eq_true hzn)]; rfl
          · have hzn : z ∈ rest G R := by
              refine hzr.mp (Classical.byContradiction fun y => c4 ?_)
              rw [decide_eq_false (fun e => y (by injection e))]; rfl
            refine ⟨rfl, ?_⟩
            rw [List.take_add_one, hz, List.filter_append, List.map_append]
            show _ = _ ++ (List.filter (fun x => decide (x ∉ rest G R)) [z]).map V.int
            rw [List.filter_cons_of_neg (p := fun x => decide (x ∉ rest G R)) (by simpa using hzn)]; simp
        obtain ⟨rfl, rfl⟩ := h
        rw [List.length_map, List.take_length]
        have s3 := s2.trans (same_upd hla (.lst ((row.2.2.filter fun x => decide (x ∉ rest G R)).map V.int)))
        have hla3 : upd H3 la (.lst ((row.2.2.filter fun x => decide (x ∉ rest G R)).map V.int)) la = some (.lst ((row.2.2.filter fun x => decide (x ∉ rest G R)).map V.int)) := upd_same
        have f0 : hd G ((i : Nat) : Int) = 0 → (row.2.2.filter fun x => decide (x ∉ rest G R)) = [] := fun h0 => by
          rw [List.filter_eq_nil_iff]
          intro x hx
          have := rest_own hL hok.wok hrest h0 x (by rw [ewy]; exact hx)
          simpa using this
        have f1 : hd G ((i : Nat) : Int) = 1 → (row.2.2.filter fun x => decide (x ∉ rest G R)).length ≠ row.2.2.length := fun h1 e => by
          obtain ⟨x, hx1, hx2⟩ := rest_oth hL hok.wok hne hrest (by omega)
          rw [List.length_filter_eq_length_iff] at e
          have := e x (by rw [← ewy]; exact hx1)
          exact (of_decide_eq_true this) hx2
        generalize (row.2.2.filter fun x => decide (x ∉ rest G R)) = Fs at hla hla3 s3 f0 f1 ⊢
        generalize upd H3 la (.lst (Fs.map V.int)) = H4 at s3 hla3 ⊢
        have s04 := s1.trans s3
        refine (rd_gix rfl rfl (SqL.of (s04 _ _ hg0)) hat0 (SqT.of (s04 _ _ p2)) (atI_nat (j := 0) rfl) ⟨rfl, _, rfl, ?_⟩)
        refine ite2 (fun c2 => ?_) (fun c2 => ?_)
        · have h0 : hd G ((i : Nat) : Int) = 0 := by have := of_decide_eq_true c2; injection this with e; rw [ehd]; exact e
          have hF := f0 h0
          subst hF
          refine ⟨_, rfl, Nat.zero_le _, fun e he => ?_⟩
          have s5 := s3.trans (same_upd he (.lst []))
          have hla5 := same_upd he (.lst []) _ _ hla3
          have he5 : upd H4 e (.lst []) e = some (.lst []) := upd_same
          generalize upd H4 e (.lst []) = H5 at s5 hla5 he5 ⊢
          have s05 := s1.trans s5
          refine ⟨la, e, _, rfl, rfl, SqL.of hla5, SqL.of he5, _, rfl, ?_⟩
          refine iteF ?_
          refine (rd_gix rfl rfl (SqL.of (s05 _ _ hg0)) hat0 (SqT.of (s05 _ _ p2)) (atI_nat (j := 0) rfl) ⟨rfl, _, rfl, ?_⟩)
          refine ite2 (fun c3 => ?_) (fun c3 => ?_)
          · exfalso
            have := of_decide_eq_true c3; injection this with e9
            rw [ehd] at h0; omega
          · refine iteF ?_
            exact ⟨s5, _, rfl⟩
        · refine iteF ?_
          refine (rd_gix rfl rfl (SqL.of (s04 _ _ hg0)) hat0 (SqT.of (s04 _ _ p2)) (atI_nat (j := 0) rfl) ⟨rfl, _, rfl, ?_⟩)
          refine ite2 (fun c3 => ?_) (fun c3 => ?_)
          · have h1 : hd G ((i : Nat) : Int) = 1 := by have := of_decide_eq_true c3; injection this with e; rw [ehd]; exact e
            refine ⟨_, rfl, la, _, rfl, .inl (SqL.of hla3), rd_gix rfl rfl (SqL.of (s04 _ _ hg0)) hat0 (SqT.of (s04 _ _ p2)) (atI_nat (j := 2) rfl) ⟨wr, _, rfl, .inl (SqL.of (s04 _ _ p3)), rfl, _, rfl, ?_⟩⟩
            refine ite2 (fun c4 => ?_) (fun c4 => ?_)
            · exfalso
              have := of_decide_eq_true c4; injection this with e9
              rw [List.length_map, List.length_map] at e9
              exact f1 h1 (by omega)
            · exact ⟨s3, _, rfl⟩
          · refine iteF ?_
            exact ⟨s3, _, rfl⟩
      · exact ⟨s2, _, rfl⟩
    rintro σ' H' ⟨s3, y, rfl⟩
    have s03 := s1.trans s3
    have hsa3 := s3 _ _ hsa
    refine (rd_gix rfl rfl (SqL.of (s03 _ _ hg0)) hat0 (SqT.of (s03 _ _ p2)) (atI_nat (j := 2) rfl) ⟨wr, rfl, ⟨_, SqL.of (s03 _ _ p3)⟩, comp_listD (K := K) (a := wr) (xs := row.2.2.map V.int) (fun k ys H4 => H4 = H' ∧ ys = (((row.2.2.take k).filter fun x => decide (x ∉ rest G R)).map (dI D)).map V.int) ⟨rfl, rfl⟩ (small (m := 1000) (by rw [List.length_map]; omega)) (fun k ys H4 hk h => ?_) (fun k x ys H4 hk h => ?_) (fun ys H4 h la hla => ?_)⟩)
    · obtain ⟨rfl, rfl⟩ := h
      exact ⟨SqL.of (s03 _ _ p3), by rw [List.length_map, List.length_map]; exact Nat.le_trans (List.length_filter_le _ _) (by simp; omega)⟩
    · obtain ⟨rfl, rfl⟩ := h
      obtain ⟨z, hz, rfl⟩ := int_of_at hk
      obtain ⟨z0, z1⟩ := w2 z (List.mem_of_getElem? hz)
      have hzr : dI D z = -1 ↔ z ∈ rest G R := by rw [hD.neg z0 z1, rest_mem]; exact ⟨fun e => ⟨⟨z0, z1⟩, e⟩, fun e => e.2⟩
      refine (rd_ixv rfl rfl (SqL.of hsa3) (dI_ex hD.1 z0 z1) ⟨1, rfl, rfl, _, rfl, ?_⟩)
      refine ite2 (fun c4 => ?_) (fun c4 => ?_)
      · have hzn : z ∉ rest G R := fun y => by rw [hzr.mpr y] at c4; simp at c4
        refine (rd_ixv rfl rfl (SqL.of hsa3) (dI_ex hD.1 z0 z1) ⟨rfl, ?_⟩)
        rw [List.take_add_one, hz, List.filter_append, List.map_append, List.map_append]
        show _ = _ ++ ((List.filter (fun x => decide (x ∉ rest G R)) [z]).map (dI D)).map V.int
        rw [List.filter_cons_of_pos (p := fun x => decide (x ∉ rest G R)) (decide_eq_true hzn)]; rfl
      · have hzn : z ∈ rest G R := by
          refine hzr.mp (Classical.byContradiction fun y => c4 ?_)
          rw [decide_eq_false (fun e => y (by injection e))]; rfl
        refine ⟨rfl, ?_⟩
        rw [List.take_add_one, hz, List.filter_append, List.map_append, List.map_append]
        show _ = _ ++ ((List.filter (fun x => decide (x ∉ rest G R)) [z]).map (dI D)).map V.int
        rw [List.filter_cons_of_neg (p := fun x => decide (x ∉ rest G R)) (by simpa using hzn)]; simp
    obtain ⟨rfl, rfl⟩ := h
    rw [List.length_map, List.take_length]
    have s4 := s3.trans (same_upd hla (.lst (((row.2.2.filter fun x => decide (x ∉ rest G R)).map (dI D)).map V.int)))
    have hla4 : upd H4 la (.lst (((row.2.2.filter fun x => decide (x ∉ rest G R)).map (dI D)).map V.int)) la = some (.lst (((row.2.2.filter fun x => decide (x ∉ rest G R)).map (dI D)).map V.int)) := upd_same
    generalize upd H4 la (.lst (((row.2.2.filter fun x => decide (x ∉ rest G R)).map (dI D)).map V.int)) = H5 at s4 hla4 ⊢
    have s05 := s1.trans s4
    have hsa5 := s4 _ _ hsa
    have near : hd G ((i : Nat) : Int) = 0 → 0 < dI D ((i : Nat) : Int) → ((row.2.2.filter fun x => decide (x ∉ rest G R)).map (dI D) ≠ []) ∧ ∀ M, M ∈ (row.2.2.filter fun x => decide (x ∉ rest G R)).map (dI D) → (∀ k ∈ (row.2.2.filter fun x => decide (x ∉ rest G R)).map (dI D), M ≤ k) → M = dI D ((i : Nat) : Int) - 1 := fun h0 h1 => by
      obtain ⟨j, hlj, ej⟩ : ∃ j : Nat, lv R (j + 1) ((i : Nat) : Int) ∧ dI D ((i : Nat) : Int) = ((j + 1 : Nat) : Int) := by
        rcases hdd with ⟨k', a, b⟩ | ⟨_, b⟩
        · obtain ⟨k, rfl⟩ : ∃ k, k' = k + 1 := ⟨k' - 1, by omega⟩
          exact ⟨k, a, b⟩
        · omega
      obtain ⟨j', ejj, ⟨w, hw1, hw2⟩, least⟩ := (hL.own hp rfl (hL.nwant hlj) h0).1 _ hlj
      have : j = j' := by omega
      subst this
      have val : ∀ x ∈ (row.2.2.filter fun x => decide (x ∉ rest G R)).map (dI D), (j : Int) ≤ x := fun x hx => by
        obtain ⟨u, hu, rfl⟩ := List.mem_map.mp hx
        obtain ⟨hu1, hu2⟩ := List.mem_filter.mp hu
        obtain ⟨u0, u1⟩ := w2 u hu1
        rcases hD.dd u0 u1 with ⟨k', a, b⟩ | ⟨a, _⟩
        · have := least u (by rw [ewy]; exact hu1) k' a
          omega
        · exact absurd (rest_mem.mpr ⟨⟨u0, u1⟩, a⟩) (of_decide_eq_true hu2)
      have hj : (j : Int) ∈ (row.2.2.filter fun x => decide (x ∉ rest G R)).map (dI D) := by
        obtain ⟨u0, u1⟩ := wy_in hok.wok hw1
        refine List.mem_map.mpr ⟨w, List.mem_filter.mpr ⟨by rw [← ewy]; exact hw1, decide_eq_true fun z => (rest_mem.mp z).2 _ hw2⟩, ?_⟩
        rcases hD.dd u0 u1 with ⟨k', a, b⟩ | ⟨a, _⟩
        · have := lv_one hL.nd a hw2
          subst this; exact b
        · exact (a _ hw2).elim
      refine ⟨fun z => (by rw [z] at hj; cases hj), fun M hM hmin => ?_⟩
      have := val M hM
      have := hmin _ hj
      omega
    refine ⟨fun σ' H' => H5 = H' ∧ σ' = [some (.ref g0), some (.ref ga), some (.ref ha), some (.ref wa), some (.ref sa), some (.int (0 + (i : Nat))), y, some (.ref la)], ?_, ?_⟩
    · refine (rd_gix rfl rfl (SqL.of (s05 _ _ hg0)) hat0 (SqT.of (s05 _ _ p2)) (atI_nat (j := 0) rfl) ⟨rfl, _, rfl, ?_⟩)
      refine ite2 (fun c1 => ?_) (fun c1 => ?_)
      · have h0 : hd G ((i : Nat) : Int) = 0 := by have := of_decide_eq_true c1; injection this with e; rw [ehd]; exact e
        refine (rd_ixv rfl rfl (SqL.of hsa5) hats ⟨_, _, rfl, rfl, _, rfl, ?_⟩)
        refine ite2 (fun c2 => ?_) (fun c2 => ?_)
        · obtain ⟨n1, n2⟩ := near h0 (of_decide_eq_true c2)
          refine ⟨_, rfl, la, _, rfl, SqL.of hla4, n1, fun M hM hmin => ?_⟩
          rw [n2 M hM hmin]
          refine (rd_ixv rfl rfl (SqL.of hsa5) hats ⟨_, _, rfl, rfl, rfl, _, rfl, ?_⟩)
          refine ite2 (fun c3 => ?_) (fun c3 => ?_)
          · exfalso; simp at c3
          · exact ⟨rfl, rfl⟩
        · refine iteF ?_
          exact ⟨rfl, rfl⟩
      · refine iteF ?_
        exact ⟨rfl, rfl⟩
    rintro σ' H' ⟨rfl, rfl⟩
    refine (rd_ixv rfl rfl (SqL.of (s05 _ _ hwa)) hatw (rd_ixv rfl rfl (SqL.of (s05 _ _ hg0)) hat0 ⟨_, rfl, _, rfl, _, rfl, t, wr, sa, ga, ((i : Nat) : Int), row, G, _, D, X, R, by rw [Int.zero_add]; rfl, hp, hrw', s05 _ _ p2, s05 _ _ p3, hok, hne, h01, hsa5, hD, hL, hX, fun H6 s6 => ?_⟩))
    have esc : scal (oW (wayB G R X ((i : Nat) : Int))) (oW (wayB G R X ((i : Nat) : Int))) = true := by cases wayB G R X ((i : Nat) : Int) <;> rfl
    refine ⟨esc, _, rfl, ?_⟩
    refine ite2 (fun c3 => ?_) (fun c3 => ?_)
    · exfalso; simp at c3
    · exact ⟨s4.trans s6, _, _, _, rfl⟩
  · exact q _ (s1.trans h.1)
theorem getD_in {Es : List Int} {z : Int} (h0 : 0 ≤ z) (h1 : z < Es.length) : Es.getD z.toNat 0 ∈ Es := by
  rw [List.getD_eq_getElem?_getD, List.getElem?_eq_getElem (by omega)]
  exact List.getElem_mem _
def spPlay (K : PySem.W.Frag) : Sp := fun vs H Q _ => Ex11 fun (a : Addr) (ns : List Int) (v : V) (ga : Addr) (ha : Addr) (wa : Addr) (p : Int) (G : List Row) (goal : List Int) (X : Int → Option Int) (R : List (List Int)) => And16 (vs = [.ref a, v, .ref ga, .ref ha, .ref wa, .int p]) (SqL K H a (ns.map V.int)) (ns.length ≤ 63) ((0 ≤ p ∧ p < G.length)) (rGame H G v) (GOk G) (NE G) (H01 G) (H ga = some (.lst (goal.map V.int))) (H ha = some (.lst ((im G.length (hf R)).map V.int))) (H wa = some (.lst (om G.length (wayB G R X)))) (Lay G 0 (fun _ => true) (fun x => decide (x ∈ goal)) R) (LOk G.length R) (R.length ≤ G.length) (PR G R (fun k p => lv R (k + 1) p ∧ hd G p = 0) X) (∀ H' : Hp, Same H H' → Q (.bl true) H')
theorem ok_play (F : DefAt K mg "_law_play" s_law_play ["_law_script", "_law_game_here", "_law_goal_here", "_law_won", "_law_ways_here", "_law_at"]) (T : Txt mg) (D_law_cell_at : Dn P w K mg base "_law_cell_at" 1 ["_law_script", "_law_k"] (spCell K)) : Dn P w K mg base "_law_play" 2 ["_law_script", "_law_game_here", "_law_goal_here", "_law_won", "_law_ways_here", "_law_at"] (spPlay K) := by
  have sc := sc_law_play
  refine F.ok sc (fun vs H Q E h => ?_) (fun f cdv A outer s H vs Q E hr h => ?_)
  · obtain ⟨_, _, _, _, _, _, _, _, _, _, _, rfl, _⟩ := h; rfl
  obtain ⟨a, ns, v, ga, ha, wa, p0, G, goal, X, R, rfl, hS, h63, hp0, hG, hok, hne, h01, hga, hha, hwa, hL, hLok, hRG, hX, q⟩ := h
  obtain ⟨g0, gv, rfl, hg0, hgl, hrow⟩ := game_parts hG
  have h160 := hok.1
  refine ⟨_, (pss_cons (ps_set (i := 6) sc.nd rfl (Or.inl rfl) (pe_ix (ixL (K := K) rfl) (pv 3) (pv 5) (fun _ _ => rfl)))
      (pss_cons (ps_for PassesOwn.never rfl (pi_range1 rfl T.b_range (pa_cons (pe_op op_add (pe_callB (clLen (K := K) rfl) rfl T.b_len PySem.boot_len (pa_cons (pv 1) pa_nil)) pe_int) pa_nil)) (pg_name (i := 7) sc.nd rfl (Or.inl rfl))
      (pss_cons (ps_if (pt_cmpR (inS (K := K) rfl) (pv 5) (pv 2) rfl)
      (pss_one (ps_ret (pe_cmpR op_eq (pv 6) pe_int (nomark _))))
      pss_nil)
      (pss_cons (ps_set (i := 8) sc.nd rfl (Or.inl rfl) (pe_ix (ixL (K := K) rfl) (pv 4) (pv 5) (fun _ _ => rfl)))
      (pss_cut (ps_if (pt_cmp (pc_isN (pv 8)))
      (pss_one (ps_set (i := 8) sc.nd rfl (Or.inl rfl) (pe_ix (ixL (K := K) rfl) (pe_ix (ixT (K := K) rfl) (pe_ix (ixL (K := K) rfl) (pv 1) (pv 5) (fun _ _ => rfl)) pe_int (fun _ _ => rfl)) (pe_op op_mod (pe_op op_fdiv (pe_dn D_law_cell_at hr (pa_cons (pv 0) (pa_cons (pe_op op_add (pv 7) (pv 5)) pa_nil))) pe_int) (pe_callB (clLen (K := K) rfl) rfl T.b_len PySem.boot_len (pa_cons (pe_ix (ixT (K := K) rfl) (pe_ix (ixL (K := K) rfl) (pv 1) (pv 5) (fun _ _ => rfl)) pe_int (fun _ _ => rfl)) pa_nil))) (fun _ _ => rfl))))
      pss_nil)
      (pss_one (ps_set (i := 5) sc.nd rfl (Or.inl rfl) (pv 8)))))))
      (pss_one (ps_ret (pe_cmpR op_eq (pv 6) pe_int (nomark _)))))), ?_⟩
  refine (rd_ixv rfl rfl (SqL.of hha) (atI_i hp0.1 (by rw [List.getElem?_map, im_at hp0.1 hp0.2]; rfl)) ?_)
  have start : (hf R p0 = 0 ∧ ∃ d, lv R d p0 ∧ d + 0 < R.length) ∨ (hf R p0 = 1 ∧ p0 ∈ rest G R) := by
    unfold hf
    by_cases c : p0 ∈ R.flatten
    · obtain ⟨d, hd⟩ := lv_flat.mp c
      exact .inl ⟨if_pos (decide_eq_true c), d, hd, lv_lt hd⟩
    · exact .inr ⟨if_neg (by simpa using c), rest_mem.mpr ⟨hp0, fun k hk => c (lv_flat.mpr ⟨k, hk⟩)⟩⟩
  generalize hf R p0 = first at start ⊢
  refine ⟨_, rfl, g0, _, rfl, .inl (SqL.of hg0), _, _, rfl, rfl, _, rfl, by omega, by omega, for_range (lo := 0) (n := (((gv.length : Nat) : Int) + 8).toNat) (fun i σ H2 => Same H H2 ∧ ∃ (y1 y2 : Option V) (p : Int), σ = [some (.ref a), some (.ref g0), some (.ref ga), some (.ref ha), some (.ref wa), some (.int p), some (.int first), y1, y2] ∧ ((first = 0 ∧ ∃ d, lv R d p ∧ d + i < R.length) ∨ (first = 1 ∧ p ∈ rest G R)))
    ⟨Same.refl _, _, _, p0, rfl, start⟩ (fun i σ H2 hi h => ?_) (fun σ H2 h => ?_)⟩
  · obtain ⟨s2, y1, y2, p, rfl, hor⟩ := h
    have hp : 0 ≤ p ∧ p < G.length := by
      rcases hor with ⟨_, d, h1, _⟩ | ⟨_, h1⟩
      · exact hL.rg h1
      · exact (rest_mem.mp h1).1
    have h0 := hL.zero hp
    obtain ⟨row, hrw⟩ : ∃ row, G[p.toNat]? = some row := ⟨G[p.toNat]'(by omega), by simp⟩
    obtain ⟨t, wr, p1, p2, p3⟩ := hrow p.toNat row hrw
    have ehd := hd_at hrw
    have ewy := wy_at hrw
    obtain ⟨w1, w2, w3⟩ := hok.2 row (List.mem_of_getElem? hrw)
    have w4 := hne row (List.mem_of_getElem? hrw)
    have hat0 : atI gv p = some (.ref t) := atI_i hp.1 p1
    have hatw : atI (om G.length (wayB G R X)) p = some (oW (wayB G R X p)) := atI_i hp.1 (om_at hp.1 hp.2)
    refine ⟨_, rfl, _, rfl, ga, _, rfl, .inl (SqL.of (s2 _ _ hga)), rfl, flat_ints _, _, rfl, ?_⟩
    rw [inV_ints]
    refine ite2 (fun c => ?_) (fun c => ?_)
    · have hf0 : first = 0 := by
        rcases hor with ⟨z, _⟩ | ⟨_, h1⟩
        · exact z
        · exact ((rest_mem.mp h1).2 0 (h0.mpr ⟨rfl, c⟩)).elim
      subst hf0
      exact ⟨_, rfl, rfl, q _ s2⟩
    have hng : ¬ lv R 0 p := fun z => c (h0.mp z).2
    refine (rd_ixv rfl rfl (SqL.of (s2 _ _ hwa)) hatw ?_)
    refine ⟨fun σ' H' => Same H H' ∧ ∃ (y1 : Option V) (p' : Int), σ' = [some (.ref a), some (.ref g0), some (.ref ga), some (.ref ha), some (.ref wa), some (.int p), some (.int first), y1, some (.int p')] ∧ ((first = 0 ∧ ∃ d, lv R d p' ∧ d + (i + 1) < R.length) ∨ (first = 1 ∧ p' ∈ rest G R)), ?_, ?_⟩
    · have any : wayB G R X p = none → (∀ x ∈ wy G p, (first = 0 ∧ ∃ d, lv R d x ∧ d + (i + 1) < R.length) ∨ (first = 1 ∧ x ∈ rest G R)) → True := fun _ _ => trivial
      have cases4 : (∃ x, wayB G R X p = some x ∧ ((first = 0 ∧ ∃ d, lv R d x ∧ d + (i + 1) < R.length) ∨ (first = 1 ∧ x ∈ rest G R))) ∨ (wayB G R X p = none ∧ ∀ x ∈ wy G p, (first = 0 ∧ ∃ d, lv R d x ∧ d + (i + 1) < R.length) ∨ (first = 1 ∧ x ∈ rest G R)) := by
        rcases hor with ⟨z, d, h1, h2⟩ | ⟨z, h1⟩
        · obtain ⟨j, rfl⟩ : ∃ j, d = j + 1 := ⟨d - 1, by
            rcases Nat.eq_zero_or_pos d with e | e
            · subst e; exact (hng h1).elim
            · omega⟩
          rcases hd01 h01 hp with hh | hh
          · obtain ⟨x, e1, _, _, e4⟩ := wayB_0 hL hX hh h1
            exact .inl ⟨x, e1, .inl ⟨z, j, e4, by omega⟩⟩
          · refine .inr ⟨wayB_1n hX hp hh fun y => (rest_mem.mp y).2 _ h1, fun x hx => .inl ⟨z, ?_⟩⟩
            obtain ⟨j', ej, _, all⟩ := (hL.oth hp rfl (hL.nwant h1) (by omega)).1 _ h1
            obtain ⟨i', a1, a2⟩ := all x hx rfl
            exact ⟨i', a2, by omega⟩
        · rcases hd01 h01 hp with hh | hh
          · exact .inr ⟨wayB_0n hX hp hh fun j => (rest_mem.mp h1).2 _, fun x hx => .inr ⟨z, rest_own hL hok.wok h1 hh x hx⟩⟩
          · obtain ⟨x, e1, _, _, e4⟩ := wayB_1 hL hok.wok hne hX hh h1
            exact .inl ⟨x, e1, .inr ⟨z, e4⟩⟩
      rcases cases4 with ⟨x, e1, e2⟩ | ⟨e1, e2⟩
      · rw [e1]
        refine ⟨_, rfl, _, rfl, ?_⟩
        refine iteF ?_
        exact ⟨s2, _, x, rfl, e2⟩
      · rw [e1]
        refine ⟨_, rfl, _, rfl, ?_⟩
        refine iteT ?_
        have hEp : 0 < row.2.2.length := List.length_pos_iff.mpr w4
        have hEl : (row.2.2.map V.int).length = row.2.2.length := List.length_map _
        refine (rd_gix rfl rfl (SqL.of (s2 _ _ hg0)) hat0 (SqT.of (s2 _ _ p2)) (atI_nat (j := 2) rfl) ⟨_, rfl, _, rfl, _, rfl, _, _, rfl, rfl, a, ns, _, rfl, s2.seq hS, h63, by omega, by omega, fun c9 hc0 hc1 => ?_⟩)
        have e0 := Int.emod_nonneg (c9 / 23) (show (row.2.2.length : Int) ≠ 0 by omega)
        have e3 := Int.emod_lt_of_pos (c9 / 23) (show (0 : Int) < (row.2.2.length : Int) by omega)
        refine ⟨_, _, rfl, rfl, ⟨by decide, by decide⟩, rd_gix rfl rfl (SqL.of (s2 _ _ hg0)) hat0 (SqT.of (s2 _ _ p2)) (atI_nat (j := 2) rfl) ⟨wr, _, rfl, .inl (SqL.of (s2 _ _ p3)), _, _, rfl, rfl, (by rw [hEl]; omega), wr, _, _, _, rfl, rfl, SqL.of (s2 _ _ p3), (by rw [hEl]; exact atI_ints e0 e3), ?_⟩⟩
        exact ⟨s2, _, _, rfl, e2 _ (by rw [ewy]; exact getD_in e0 e3)⟩
    · rintro σ' H' ⟨s5, y1, p', rfl, hor'⟩
      exact ⟨_, rfl, s5, _, _, p', rfl, hor'⟩
  · obtain ⟨s2, y1, y2, p, rfl, hor⟩ := h
    have hf1 : first = 1 := by
      rcases hor with ⟨_, d, _, h2⟩ | ⟨z, _⟩
      · exfalso; omega
      · exact z
    subst hf1
    exact ⟨_, rfl, rfl, q _ s2⟩
def spLaw (K : PySem.W.Frag) : Sp := fun vs H Q _ => ∃ (a : Addr) (ns : List Int), vs = [.ref a] ∧ SqL K H a (ns.map V.int) ∧ ns.length ≤ 63 ∧ ∀ H', Q (.bl true) H'
theorem ok_law {f : Addr} {fd : FuncData} (F : Fun K "law" "law" s_law f fd) (T : Txt mg) (D_law_cell_at : Dn P w K mg base "_law_cell_at" 1 ["_law_script", "_law_k"] (spCell K)) (D_law_many : Dn P w K mg base "_law_many" 2 ["_law_script"] (spMany K)) (D_law_game : Dn P w K mg base "_law_game" 2 ["_law_script", "_law_many_here"] (spGame K)) (D_law_goal : Dn P w K mg base "_law_goal" 2 ["_law_script", "_law_many_here"] (spGoal K))
    (D_reached : Dn P w K mg base "reached" 10 ["game", "goal"] spReached) (D_law_kinds : Dn P w K mg base "_law_kinds" 2 ["_law_game_here", "_law_found"] spKinds) (D_law_walked : Dn P w K mg base "_law_walked" 3 ["_law_game_here", "_law_goal_here", "_law_won", "_law_ways_here"] spWalkB) (D_law_play : Dn P w K mg base "_law_play" 2 ["_law_script", "_law_game_here", "_law_goal_here", "_law_won", "_law_ways_here", "_law_at"] (spPlay K)) : FnOk P w K mg base CX0 11 f fd ["_law_script"] (spLaw K) := by
  have sc := sc_law
  refine F.ok sc (fun vs H Q E h => ?_) (fun cdv A outer s H vs Q E hr h => ?_)
  · obtain ⟨_, _, rfl, _⟩ := h; rfl
  obtain ⟨a, ns, rfl, hS, h63, q⟩ := h
  refine ⟨_, (pss_cons (ps_set (i := 1) sc.nd rfl (Or.inl rfl) (pe_dn D_law_many hr (pa_cons (pv 0) pa_nil)))
      (pss_cons (ps_set (i := 2) sc.nd rfl (Or.inl rfl) (pe_dn D_law_game hr (pa_cons (pv 0) (pa_cons (pv 1) pa_nil))))
      (pss_cons (ps_set (i := 3) sc.nd rfl (Or.inl rfl) (pe_dn D_law_goal hr (pa_cons (pv 0) (pa_cons (pv 1) pa_nil))))
      (pss_cons (ps_lc (i := 4) (defScope s_law) ["_law_script", "_law_many_here", "_law_game_here", "_law_goal_here", "_law_handed", "_law_heard", "_law_found", "_law_k"] ["_law_place"] 1 [] sc.nd rfl rfl (pi_list (pv 2)) (fun _ _ _ _ _ _ => (ptg_name (show List.Nodup (["_law_place"] : List Str) by decide +kernel) rfl rfl)) (fun _ _ _ _ _ _ => pts_nil) (fun _ _ _ _ _ _ => (pe_tup (pa_cons (pe_ix (ixT (K := K) rfl) (pv 0) pe_int (fun _ _ => rfl)) (pa_cons (pe_ix (ixT (K := K) rfl) (pv 0) pe_int (fun _ _ => rfl)) (pa_cons (pe_callTy (clList (K := K) rfl) rfl T.b_list PyProof.Rows.boot_list (pa_cons (pe_ix (ixT (K := K) rfl) (pv 0) pe_int (fun _ _ => rfl)) pa_nil)) pa_nil))))))
      (pss_cons (ps_set (i := 5) sc.nd rfl (Or.inl rfl) (pe_callTy (clList (K := K) rfl) rfl T.b_list PyProof.Rows.boot_list (pa_cons (pv 3) pa_nil)))
      (pss_cons (ps_set (i := 6) sc.nd rfl (Or.inl rfl) (pe_dn D_reached hr (pa_cons (pv 4) (pa_cons (pv 5) pa_nil))))
      (pss_cons (ps_if (PW.pt (pw_or (pt_not (pt_val (pe_dn D_law_kinds hr (pa_cons (pv 2) (pa_cons (pv 6) pa_nil))))) (pw_or (pt_cmpR (op_neR (rcok_lst (eqok_t3 (EqOk.up eqok_int (by decide : 0 ≤ 1)) (EqOk.up eqok_int (by decide : 0 ≤ 1)) (eqok_lst eqok_int))) (hu_n hr 3)) (pv 4) (pv 2) (nomark _)) (pw_or1 (pt_cmpR (op_neR (rcok_lst eqok_int) (hu_n hr 1)) (pv 5) (pv 3) (nomark _))))))
      (pss_one (ps_ret pe_bl))
      pss_nil)
      (pss_cons (ps_if (pt_not (pt_val (pe_dn D_law_walked hr (pa_cons (pv 2) (pa_cons (pv 3) (pa_cons (pe_ix (ixT (K := K) rfl) (pv 6) pe_int (fun _ _ => rfl)) (pa_cons (pe_ix (ixT (K := K) rfl) (pv 6) pe_int (fun _ _ => rfl)) pa_nil)))))))
      (pss_one (ps_ret pe_bl))
      pss_nil)
      (pss_cons (ps_for PassesOwn.never rfl (pi_range1 rfl T.b_range (pa_cons (pe_op op_mul pe_int (pe_callB (call_min2 rfl) rfl T.b_min PyProof.Rows.boot_min (pa_cons pe_int (pa_cons (pv 1) pa_nil)))) pa_nil)) (pg_name (i := 7) sc.nd rfl (Or.inl rfl))
      (pss_one (ps_if (pt_not (pt_val (pe_dn D_law_play hr (pa_cons (pv 0) (pa_cons (pv 2) (pa_cons (pv 3) (pa_cons (pe_ix (ixT (K := K) rfl) (pv 6) pe_int (fun _ _ => rfl)) (pa_cons (pe_ix (ixT (K := K) rfl) (pv 6) pe_int (fun _ _ => rfl)) (pa_cons (pe_op op_mod (pe_op op_fdiv (pe_dn D_law_cell_at hr (pa_cons (pv 0) (pa_cons (pe_op op_add (pe_op op_mul pe_int (pv 7)) pe_int) pa_nil))) pe_int) (pv 1)) pa_nil)))))))))
      (pss_one (ps_ret pe_bl))
      pss_nil)))
      (pss_one (ps_ret pe_bl))))))))))), ?_⟩
  refine ⟨_, rfl, a, ns, rfl, hS, h63, fun m hm0 hm1 => ?_⟩
  refine ⟨_, rfl, _, rfl, a, ns, m, rfl, hS, h63, by omega, by omega, fun vg H1 G s1 hG1 hok hne h01 hGl => ?_⟩
  have hG160 := hok.1
  refine ⟨_, rfl, _, rfl, a, ns, m, rfl, s1.seq hS, h63, hm0, by omega, fun ga gs H2 s2 _ hga hgs => ?_⟩
  have hG := mono_game.up s2 hG1
  have s02 := s1.trans s2
  obtain ⟨g0, gv, rfl, hg0, hgl, hrow⟩ := game_parts hG
  refine ⟨_, rfl, g0, rfl, ⟨_, SqL.of hg0⟩, comp_listD (K := K) (a := g0) (xs := gv) (fun i ys H3 => Same H2 H3 ∧ Paired (rRow H3) (G.take i) ys) ⟨Same.refl _, .nil⟩ (small (m := 1000) (by omega)) (fun i ys H3 hi h => ?_) (fun i x ys H3 hi h => ?_) (fun ys H3 h h0 hh0 => ?_)⟩
  · exact ⟨SqL.of (h.1 _ _ hg0), by have := h.2.length; simp at this; omega⟩
  · obtain ⟨s3, pr⟩ := h
    have hil : i < G.length := by have := (List.getElem?_eq_some_iff.mp hi).1; omega
    obtain ⟨row, hrw⟩ : ∃ row, G[i]? = some row := ⟨G[i], by simp⟩
    obtain ⟨t, wa, p1, p2, p3⟩ := hrow i row hrw
    rw [hi] at p1; cases p1
    refine comp_yes ?_
    refine (rd_tixc rfl (SqT.of (s3 _ _ p2)) (atI_nat (j := 0) rfl) (rd_tixc rfl (SqT.of (s3 _ _ p2)) (atI_nat (j := 1) rfl) (rd_tixc rfl (SqT.of (s3 _ _ p2)) (atI_nat (j := 2) rfl) ⟨wa, _, rfl, .inl (SqL.of (s3 _ _ p3)), fun l hl => ?_⟩)))
    refine ⟨(by show 3 ≤ sizeLine; decide), fun t2 ht2 => ?_⟩
    have s4 := s3.trans (same_upd hl (.lst (row.2.2.map V.int)))
    refine ⟨s4.trans (same_upd ht2 _), ?_⟩
    rw [List.take_add_one, hrw]
    refine Paired.app (paired_mono mono_row ((same_upd hl _).trans (same_upd ht2 _)) pr) (.cons ?_ .nil)
    exact mono_row.up (newp_same _ _) (row_new (h := row.1) (r := row.2.1) (ws := row.2.2) s4 (s3.free hl) upd_same ht2)
  obtain ⟨s20, pr⟩ := h
  rw [hgl, List.take_length] at pr
  have s4 : Same H2 (upd H3 h0 (.lst ys)) := s20.trans (same_upd hh0 _)
  have hh : rGame (upd H3 h0 (.lst ys)) G (.ref h0) := ⟨h0, ys, rfl, upd_same, paired_mono mono_row (same_upd hh0 _) pr⟩
  generalize upd H3 h0 (.lst ys) = H4 at s4 hh ⊢
  refine ⟨_, rfl, ga, _, rfl, .inl (SqL.of (s4 _ _ hga)), fun e he => ?_⟩
  have s5 := same_upd he (.lst (gs.map V.int))
  have he5 : upd H4 e (.lst (gs.map V.int)) e = some (.lst (gs.map V.int)) := upd_same
  generalize upd H4 e (.lst (gs.map V.int)) = H5 at s5 he5 ⊢
  have hh5 := mono_game.up s5 hh
  have s25 := s4.trans s5
  have hG5 := mono_game.up s25 hG
  have hga5 := s25 _ _ hga
  have hS5 := (s02.trans s25).seq hS
  refine ⟨_, rfl, _, rfl, _, e, G, gs, rfl, hh5, hok, hne, he5, fun ft ha wa X R H6 s6 hR hft hha hwa hX => ?_⟩
  have hL : Lay G 0 (fun _ => true) (fun x => decide (x ∈ gs)) R := by rw [hR]; exact layers_lay
  have hLok : LOk G.length R := by rw [hR]; exact lay_ok hG160
  have hRG : R.length ≤ G.length := by
    obtain ⟨r1, r2⟩ := run_bound (G := G) (hand := 0) (ins := fun _ => true) (G.length + 1) [] (lay0 G (fun _ => true) fun x => decide (x ∈ gs)) (LI.start _) (by simp)
    rw [hR]; unfold layers; omega
  have hW : ∀ p : Int, 0 ≤ p → p < G.length → ∀ z, wayB G R X p = some z → z ∈ wy G p := fun p p0 p1 z hz => by
    rcases hd01 h01 ⟨p0, p1⟩ with hh | hh
    · by_cases c : ∃ j, lv R (j + 1) p
      · obtain ⟨j, hj⟩ := c
        obtain ⟨x, e1, _, e3, _⟩ := wayB_0 hL hX hh hj
        rw [e1] at hz; cases hz; exact e3
      · rw [wayB_0n hX ⟨p0, p1⟩ hh fun j y => c ⟨j, y⟩] at hz; cases hz
    · by_cases c : p ∈ rest G R
      · obtain ⟨x, e1, _, e3, _⟩ := wayB_1 hL hok.wok hne hX hh c
        rw [e1] at hz; cases hz; exact e3
      · rw [wayB_1n hX ⟨p0, p1⟩ hh c] at hz; cases hz
  refine ⟨_, rfl, _, rfl, _, ft, ha, wa, G, _, _, rfl, mono_game.up s6 hG5, hok, hft, hha, hwa, (fun p => by split <;> omega), hW, fun H7 s7 => ?_⟩
  have s57 := s6.trans s7
  refine ⟨_, rfl, ?_⟩
  refine iteF ?_
  refine ⟨_, rfl, _, rfl, G, mono_game.up s57 hh5, mono_game.up s57 hG5, _, rfl, ?_⟩
  refine iteF ?_
  refine ⟨_, rfl, _, rfl, gs, ints_rel (s57 _ _ he5), ints_rel (s57 _ _ hga5), _, rfl, ?_⟩
  refine iteF ?_
  have a0 : atI [V.ref ha, V.ref wa] 0 = some (.ref ha) := atI_nat (j := 0) rfl
  have a1 : atI [V.ref ha, V.ref wa] 1 = some (.ref wa) := atI_nat (j := 1) rfl
  refine ⟨_, rfl, _, rfl, rd_tixc rfl (SqT.of (s7 _ _ hft)) a0 (rd_tixc rfl (SqT.of (s7 _ _ hft)) a1 ⟨_, ga, ha, wa, G, gs, X, R, rfl, mono_game.up s57 hG5, hok, hne, h01, s57 _ _ hga5, s7 _ _ hha, s7 _ _ hwa, hL, hLok, hX, hW, fun H8 s8 => ?_⟩)⟩
  have s58 := s57.trans s8
  have s68 := s7.trans s8
  refine ⟨_, rfl, ?_⟩
  refine iteF ?_
  refine ⟨_, rfl, 1, m, rfl, ?_⟩
  refine ⟨_, _, rfl, rfl, .inl ⟨by decide, by decide⟩, _, rfl, ?_, ?_, for_range (lo := 0) (n := _) (fun i σ H9 => Same H8 H9 ∧ ∃ y : Option V, σ = [some (.ref a), some (.int m), some (.ref g0), some (.ref ga), some (.ref h0), some (.ref e), some (.ref ft), y])
    ⟨Same.refl _, _, rfl⟩ (fun i σ H9 hi h => ?_) (fun σ H9 h => ?_)⟩
  · (repeat' split) <;> omega
  · (repeat' split) <;> omega
  · obtain ⟨s9, y, rfl⟩ := h
    have hm1 : 1 ≤ m := by revert hi; (repeat' split) <;> intro hi <;> omega
    have s59 := s58.trans s9
    have s69 := s68.trans s9
    refine ⟨_, rfl, _, rfl, _, rfl, rd_tixc rfl (SqT.of (s69 _ _ hft)) a0 (rd_tixc rfl (SqT.of (s69 _ _ hft)) a1 ⟨_, rfl, _, rfl, _, _, rfl, rfl, .inl ⟨by decide, by decide⟩, _, _, rfl, rfl, a, ns, _, rfl, s59.seq hS5, h63, by omega, by omega, fun c9 hc0 hc1 => ?_⟩)⟩
    have e0 := Int.emod_nonneg (c9 / 5) (show m ≠ 0 by omega)
    have e1 := Int.emod_lt_of_pos (c9 / 5) (show 0 < m by omega)
    refine ⟨_, _, rfl, rfl, ⟨by decide, by decide⟩, _, rfl, _, _, rfl, rfl, (by omega), a, ns, _, ga, ha, wa, _, G, gs, X, R, rfl, s59.seq hS5, h63, ⟨e0, by omega⟩, mono_game.up s59 hG5, hok, hne, h01, s59 _ _ hga5, s69 _ _ hha, s69 _ _ hwa, hL, hLok, hRG, hX, fun HA sA => ?_⟩
    refine ⟨_, rfl, ?_⟩
    refine iteF ?_
    exact ⟨s9.trans sA, _, rfl⟩
  · exact q _
theorem main {f : Addr} {fd : FuncData} (T : Txt mg) (A1 : DefAt K mg "is_whole" s_is_whole ["value"]) (A2 : DefAt K mg "is_place" s_is_place ["value", "count"]) (A3 : DefAt K mg "ways_in" s_ways_in ["game"]) (A4 : DefAt K mg "place_marks" s_place_marks ["count", "places"]) (A5 : DefAt K mg "part_marks" s_part_marks ["game", "part"]) (A6 : DefAt K mg "lacking_ways" s_lacking_ways ["game", "hand", "inside", "wanted"]) (A7 : DefAt K mg "next_layer" s_next_layer ["layer", "entries", "lacking"]) (A8 : DefAt K mg "layers_to" s_layers_to ["game", "entries", "hand", "goal", "part"]) (A9 : DefAtD K mg "pulled" s_pulled ["game", "hand", "goal", "part"] [.non]) (A10 : DefAtD K mg "pulled" s_pulled ["game", "hand", "goal", "part"] []) (A11 : DefAt K mg "least_way" s_least_way ["ways", "marks"]) (A12 : DefAt K mg "layer_ways" s_layer_ways ["game", "hand", "layers"]) (A13 : DefAtD K mg "pull_ways" s_pull_ways ["game", "hand", "goal", "part"] [.non]) (_ : DefAtD K mg "pull_ways" s_pull_ways ["game", "hand", "goal", "part"] []) (A14 : DefAt K mg "places_outside" s_places_outside ["game", "places"]) (A15 : DefAt K mg "pulled_places" s_pulled_places ["game", "hand", "goal"]) (A16 : DefAt K mg "kept" s_kept ["game", "hand", "some"]) (A17 : DefAt K mg "keep_ways" s_keep_ways ["game", "hand", "some"]) (A18 : DefAt K mg "reached" s_reached ["game", "goal"])
    (B1 : DefAt K mg "_law_cell_at" s_law_cell_at ["_law_script", "_law_k"]) (B2 : DefAt K mg "_law_many" s_law_many ["_law_script"]) (B3 : DefAt K mg "_law_ways" s_law_ways ["_law_one", "_law_other", "_law_k", "_law_many_here", "_law_near"]) (B4 : DefAt K mg "_law_game" s_law_game ["_law_script", "_law_many_here"]) (B5 : DefAt K mg "_law_goal" s_law_goal ["_law_script", "_law_many_here"]) (B6 : DefAt K mg "_law_whole" s_law_whole ["_law_found"]) (B7 : DefAt K mg "_law_kinds" s_law_kinds ["_law_game_here", "_law_found"]) (B8 : DefAt K mg "_law_round" s_law_round ["_law_game_here", "_law_ways_here", "_law_sure_here", "_law_k"]) (B9 : DefAt K mg "_law_sure" s_law_sure ["_law_game_here", "_law_goal_here", "_law_ways_here"]) (B10 : DefAt K mg "_law_way_due" s_law_way_due ["_law_place", "_law_at", "_law_sure_here", "_law_goal_here"]) (B11 : DefAt K mg "_law_walked" s_law_walked ["_law_game_here", "_law_goal_here", "_law_won", "_law_ways_here"]) (B12 : DefAt K mg "_law_play" s_law_play ["_law_script", "_law_game_here", "_law_goal_here", "_law_won", "_law_ways_here", "_law_at"])
    (F : Fun K "law" "law" s_law f fd) : FnOk P w K mg base CX0 11 f fd ["_law_script"] (spLaw K) := by
  have ce := ok_cell (P := P) (w := w) (base := base) B1 T
  have pm := ok_place_marks (P := P) (w := w) (base := base) A4 T (ok_is_place A2 T (ok_is_whole A1 T))
  have ly := ok_layers A8 T (ok_part_marks A5 T pm) pm (ok_lacking A6 T) (ok_next A7 T)
  have ou := ok_out A14 T pm
  have pp := ok_pp A15 T (ok_pulled A9 T (ok_in A3 T) ly)
  have kp := ok_kept A16 T ou pp
  have le := ok_least (P := P) (w := w) (base := base) A11 T
  have pw := ok_pw A13 T (ok_pulled A10 T (ok_in A3 T) ly) (ok_lw A12 T pm le)
  exact ok_law F T ce (ok_many B2 T ce) (ok_game B4 T ce (ok_ways B3 T)) (ok_goal B5 T ce) (ok_reached A18 T pm pp pw (ok_kw A17 T pm kp le) ou) (ok_kinds B7 T (ok_whole B6 T)) (ok_walked B11 T (ok_sure B9 T (ok_round B8 T)) (ok_wd B10 T)) (ok_play B12 T ce)
end
theorem all_mk {l : PySem.W.OpenLaw} {w : World} {K : PySem.W.Frag} {h : Heap} {mg : Str → Option Value} {fa f1 f2 f3 f4 f5 f6 f7 f8 f9 f10 f11 f12 f13 f14 f15 f16 f17 f18 f19 f20 f21 f22 f23 f24 f25 f26 f27 f28 f29 f30 : Addr} (X : K.In h) (G : h.Ns mainGlobals mg) (hfa : mg "law" = some (.ref fa))
    {od1 an1 od2 an2 od3 an3 od4 an4 od5 an5 od6 an6 od7 an7 od8 an8 od9 an9 od10 an10 od11 an11 od12 an12 od13 an13 od14 an14 od15 an15 od16 an16 od17 an17 od18 an18 od19 an19 od20 an20 od21 an21 od22 an22 od23 an23 od24 an24 od25 an25 od26 an26 od27 an27 od28 an28 od29 an29 od30 an30 : Option Addr} {sl1 sl2 sl3 sl4 sl5 sl6 sl7 sl8 sl9 sl10 sl11 sl12 sl13 sl14 sl15 sl16 sl17 sl18 sl19 sl20 sl21 sl22 sl23 sl24 sl25 sl26 sl27 sl28 sl29 sl30 : Array (Option Value)} {oc1 kV1 dc1 pm1 cd1 ct1 oc2 kV2 dc2 pm2 cd2 ct2 oc3 kV3 dc3 pm3 cd3 ct3 oc4 kV4 dc4 pm4 cd4 ct4 oc5 kV5 dc5 pm5 cd5 ct5 oc6 kV6 dc6 pm6 cd6 ct6 oc7 kV7 dc7 pm7 cd7 ct7 oc8 kV8 dc8 pm8 cd8 ct8 oc9 kV9 dc9 pm9 cd9 ct9 oc10 kV10 dc10 pm10 cd10 ct10 oc11 kV11 dc11 pm11 cd11 ct11 oc12 kV12 dc12 pm12 cd12 ct12 oc13 kV13 dc13 pm13 cd13 ct13 oc14 kV14 dc14 pm14 cd14 ct14 oc15 kV15 dc15 pm15 cd15 ct15 oc16 kV16 dc16 pm16 cd16 ct16 oc17 kV17 dc17 pm17 cd17 ct17 oc18 kV18 dc18 pm18 cd18 ct18 oc19 kV19 dc19 pm19 cd19 ct19 oc20 kV20 dc20 pm20 cd20 ct20 oc21 kV21 dc21 pm21 cd21 ct21 oc22 kV22 dc22 pm22 cd22 ct22 oc23 kV23 dc23 pm23 cd23 ct23 oc24 kV24 dc24 pm24 cd24 ct24 oc25 kV25 dc25 pm25 cd25 ct25 oc26 kV26 dc26 pm26 cd26 ct26 oc27 kV27 dc27 pm27 cd27 ct27 oc28 kV28 dc28 pm28 cd28 ct28 oc29 kV29 dc29 pm29 cd29 ct29 oc30 kV30 dc30 pm30 cd30 ct30 : Value}
    {T9 : Addr} {tc9 : Value} {td9 : Option Addr} {tn9 : Nat} {ts9 : Array (Option Value)} (d9 : K.lookup T9 = some ⟨tc9, td9, .seq #[.none] tn9, ts9⟩)
    {T12 : Addr} {tc12 : Value} {td12 : Option Addr} {tn12 : Nat} {ts12 : Array (Option Value)} (d12 : K.lookup T12 = some ⟨tc12, td12, .seq #[.none] tn12, ts12⟩)
    (a1 : PySem.W.nsIn K mainGlobals "is_whole" = some (some (.ref f1))) (l1 : K.lookup f1 = some ⟨oc1, od1, .func (PySem.W.fnOf "is_whole" "is_whole" (defArgs s_is_whole) (defBody s_is_whole) (defScope s_is_whole) .none kV1 dc1 pm1 an1 cd1 ct1), sl1⟩) (c1 : PySem.W.codeIn K cd1 "is_whole" = true) (k1 : PySem.W.keepIn K (.ref f1) = true)
    (a2 : PySem.W.nsIn K mainGlobals "is_place" = some (some (.ref f2))) (l2 : K.lookup f2 = some ⟨oc2, od2, .func (PySem.W.fnOf "is_place" "is_place" (defArgs s_is_place) (defBody s_is_place) (defScope s_is_place) .none kV2 dc2 pm2 an2 cd2 ct2), sl2⟩) (c2 : PySem.W.codeIn K cd2 "is_place" = true) (k2 : PySem.W.keepIn K (.ref f2) = true)
    (a3 : PySem.W.nsIn K mainGlobals "ways_in" = some (some (.ref f3))) (l3 : K.lookup f3 = some ⟨oc3, od3, .func (PySem.W.fnOf "ways_in" "ways_in" (defArgs s_ways_in) (defBody s_ways_in) (defScope s_ways_in) .none kV3 dc3 pm3 an3 cd3 ct3), sl3⟩) (c3 : PySem.W.codeIn K cd3 "ways_in" = true) (k3 : PySem.W.keepIn K (.ref f3) = true)
    (a4 : PySem.W.nsIn K mainGlobals "place_marks" = some (some (.ref f4))) (l4 : K.lookup f4 = some ⟨oc4, od4, .func (PySem.W.fnOf "place_marks" "place_marks" (defArgs s_place_marks) (defBody s_place_marks) (defScope s_place_marks) .none kV4 dc4 pm4 an4 cd4 ct4), sl4⟩) (c4 : PySem.W.codeIn K cd4 "place_marks" = true) (k4 : PySem.W.keepIn K (.ref f4) = true)
    (a5 : PySem.W.nsIn K mainGlobals "part_marks" = some (some (.ref f5))) (l5 : K.lookup f5 = some ⟨oc5, od5, .func (PySem.W.fnOf "part_marks" "part_marks" (defArgs s_part_marks) (defBody s_part_marks) (defScope s_part_marks) .none kV5 dc5 pm5 an5 cd5 ct5), sl5⟩) (c5 : PySem.W.codeIn K cd5 "part_marks" = true) (k5 : PySem.W.keepIn K (.ref f5) = true)
    (a6 : PySem.W.nsIn K mainGlobals "lacking_ways" = some (some (.ref f6))) (l6 : K.lookup f6 = some ⟨oc6, od6, .func (PySem.W.fnOf "lacking_ways" "lacking_ways" (defArgs s_lacking_ways) (defBody s_lacking_ways) (defScope s_lacking_ways) .none kV6 dc6 pm6 an6 cd6 ct6), sl6⟩) (c6 : PySem.W.codeIn K cd6 "lacking_ways" = true) (k6 : PySem.W.keepIn K (.ref f6) = true)
    (a7 : PySem.W.nsIn K mainGlobals "next_layer" = some (some (.ref f7))) (l7 : K.lookup f7 = some ⟨oc7, od7, .func (PySem.W.fnOf "next_layer" "next_layer" (defArgs s_next_layer) (defBody s_next_layer) (defScope s_next_layer) .none kV7 dc7 pm7 an7 cd7 ct7), sl7⟩) (c7 : PySem.W.codeIn K cd7 "next_layer" = true) (k7 : PySem.W.keepIn K (.ref f7) = true)
    (a8 : PySem.W.nsIn K mainGlobals "layers_to" = some (some (.ref f8))) (l8 : K.lookup f8 = some ⟨oc8, od8, .func (PySem.W.fnOf "layers_to" "layers_to" (defArgs s_layers_to) (defBody s_layers_to) (defScope s_layers_to) .none kV8 dc8 pm8 an8 cd8 ct8), sl8⟩) (c8 : PySem.W.codeIn K cd8 "layers_to" = true) (k8 : PySem.W.keepIn K (.ref f8) = true)
    (a9 : PySem.W.nsIn K mainGlobals "pulled" = some (some (.ref f9))) (l9 : K.lookup f9 = some ⟨oc9, od9, .func (PySem.W.fnOf "pulled" "pulled" (defArgs s_pulled) (defBody s_pulled) (defScope s_pulled) (.ref T9) kV9 dc9 pm9 an9 cd9 ct9), sl9⟩) (c9 : PySem.W.codeIn K cd9 "pulled" = true) (k9 : PySem.W.keepIn K (.ref f9) = true)
    (a10 : PySem.W.nsIn K mainGlobals "least_way" = some (some (.ref f10))) (l10 : K.lookup f10 = some ⟨oc10, od10, .func (PySem.W.fnOf "least_way" "least_way" (defArgs s_least_way) (defBody s_least_way) (defScope s_least_way) .none kV10 dc10 pm10 an10 cd10 ct10), sl10⟩) (c10 : PySem.W.codeIn K cd10 "least_way" = true) (k10 : PySem.W.keepIn K (.ref f10) = true)
    (a11 : PySem.W.nsIn K mainGlobals "layer_ways" = some (some (.ref f11))) (l11 : K.lookup f11 = some ⟨oc11, od11, .func (PySem.W.fnOf "layer_ways" "layer_ways" (defArgs s_layer_ways) (defBody s_layer_ways) (defScope s_layer_ways) .none kV11 dc11 pm11 an11 cd11 ct11), sl11⟩) (c11 : PySem.W.codeIn K cd11 "layer_ways" = true) (k11 : PySem.W.keepIn K (.ref f11) = true)
    (a12 : PySem.W.nsIn K mainGlobals "pull_ways" = some (some (.ref f12))) (l12 : K.lookup f12 = some ⟨oc12, od12, .func (PySem.W.fnOf "pull_ways" "pull_ways" (defArgs s_pull_ways) (defBody s_pull_ways) (defScope s_pull_ways) (.ref T12) kV12 dc12 pm12 an12 cd12 ct12), sl12⟩) (c12 : PySem.W.codeIn K cd12 "pull_ways" = true) (k12 : PySem.W.keepIn K (.ref f12) = true)
    (a13 : PySem.W.nsIn K mainGlobals "places_outside" = some (some (.ref f13))) (l13 : K.lookup f13 = some ⟨oc13, od13, .func (PySem.W.fnOf "places_outside" "places_outside" (defArgs s_places_outside) (defBody s_places_outside) (defScope s_places_outside) .none kV13 dc13 pm13 an13 cd13 ct13), sl13⟩) (c13 : PySem.W.codeIn K cd13 "places_outside" = true) (k13 : PySem.W.keepIn K (.ref f13) = true)
    (a14 : PySem.W.nsIn K mainGlobals "pulled_places" = some (some (.ref f14))) (l14 : K.lookup f14 = some ⟨oc14, od14, .func (PySem.W.fnOf "pulled_places" "pulled_places" (defArgs s_pulled_places) (defBody s_pulled_places) (defScope s_pulled_places) .none kV14 dc14 pm14 an14 cd14 ct14), sl14⟩) (c14 : PySem.W.codeIn K cd14 "pulled_places" = true) (k14 : PySem.W.keepIn K (.ref f14) = true)
    (a15 : PySem.W.nsIn K mainGlobals "kept" = some (some (.ref f15))) (l15 : K.lookup f15 = some ⟨oc15, od15, .func (PySem.W.fnOf "kept" "kept" (defArgs s_kept) (defBody s_kept) (defScope s_kept) .none kV15 dc15 pm15 an15 cd15 ct15), sl15⟩) (c15 : PySem.W.codeIn K cd15 "kept" = true) (k15 : PySem.W.keepIn K (.ref f15) = true)
    (a16 : PySem.W.nsIn K mainGlobals "keep_ways" = some (some (.ref f16))) (l16 : K.lookup f16 = some ⟨oc16, od16, .func (PySem.W.fnOf "keep_ways" "keep_ways" (defArgs s_keep_ways) (defBody s_keep_ways) (defScope s_keep_ways) .none kV16 dc16 pm16 an16 cd16 ct16), sl16⟩) (c16 : PySem.W.codeIn K cd16 "keep_ways" = true) (k16 : PySem.W.keepIn K (.ref f16) = true)
    (a17 : PySem.W.nsIn K mainGlobals "reached" = some (some (.ref f17))) (l17 : K.lookup f17 = some ⟨oc17, od17, .func (PySem.W.fnOf "reached" "reached" (defArgs s_reached) (defBody s_reached) (defScope s_reached) .none kV17 dc17 pm17 an17 cd17 ct17), sl17⟩) (c17 : PySem.W.codeIn K cd17 "reached" = true) (k17 : PySem.W.keepIn K (.ref f17) = true)
    (a18 : PySem.W.nsIn K mainGlobals "_law_cell_at" = some (some (.ref f18))) (l18 : K.lookup f18 = some ⟨oc18, od18, .func (PySem.W.fnOf "_law_cell_at" "_law_cell_at" (defArgs s_law_cell_at) (defBody s_law_cell_at) (defScope s_law_cell_at) .none kV18 dc18 pm18 an18 cd18 ct18), sl18⟩) (c18 : PySem.W.codeIn K cd18 "_law_cell_at" = true) (k18 : PySem.W.keepIn K (.ref f18) = true)
    (a19 : PySem.W.nsIn K mainGlobals "_law_many" = some (some (.ref f19))) (l19 : K.lookup f19 = some ⟨oc19, od19, .func (PySem.W.fnOf "_law_many" "_law_many" (defArgs s_law_many) (defBody s_law_many) (defScope s_law_many) .none kV19 dc19 pm19 an19 cd19 ct19), sl19⟩) (c19 : PySem.W.codeIn K cd19 "_law_many" = true) (k19 : PySem.W.keepIn K (.ref f19) = true)
    (a20 : PySem.W.nsIn K mainGlobals "_law_ways" = some (some (.ref f20))) (l20 : K.lookup f20 = some ⟨oc20, od20, .func (PySem.W.fnOf "_law_ways" "_law_ways" (defArgs s_law_ways) (defBody s_law_ways) (defScope s_law_ways) .none kV20 dc20 pm20 an20 cd20 ct20), sl20⟩) (c20 : PySem.W.codeIn K cd20 "_law_ways" = true) (k20 : PySem.W.keepIn K (.ref f20) = true)
    (a21 : PySem.W.nsIn K mainGlobals "_law_game" = some (some (.ref f21))) (l21 : K.lookup f21 = some ⟨oc21, od21, .func (PySem.W.fnOf "_law_game" "_law_game" (defArgs s_law_game) (defBody s_law_game) (defScope s_law_game) .none kV21 dc21 pm21 an21 cd21 ct21), sl21⟩) (c21 : PySem.W.codeIn K cd21 "_law_game" = true) (k21 : PySem.W.keepIn K (.ref f21) = true)
    (a22 : PySem.W.nsIn K mainGlobals "_law_goal" = some (some (.ref f22))) (l22 : K.lookup f22 = some ⟨oc22, od22, .func (PySem.W.fnOf "_law_goal" "_law_goal" (defArgs s_law_goal) (defBody s_law_goal) (defScope s_law_goal) .none kV22 dc22 pm22 an22 cd22 ct22), sl22⟩) (c22 : PySem.W.codeIn K cd22 "_law_goal" = true) (k22 : PySem.W.keepIn K (.ref f22) = true)
    (a23 : PySem.W.nsIn K mainGlobals "_law_whole" = some (some (.ref f23))) (l23 : K.lookup f23 = some ⟨oc23, od23, .func (PySem.W.fnOf "_law_whole" "_law_whole" (defArgs s_law_whole) (defBody s_law_whole) (defScope s_law_whole) .none kV23 dc23 pm23 an23 cd23 ct23), sl23⟩) (c23 : PySem.W.codeIn K cd23 "_law_whole" = true) (k23 : PySem.W.keepIn K (.ref f23) = true)
    (a24 : PySem.W.nsIn K mainGlobals "_law_kinds" = some (some (.ref f24))) (l24 : K.lookup f24 = some ⟨oc24, od24, .func (PySem.W.fnOf "_law_kinds" "_law_kinds" (defArgs s_law_kinds) (defBody s_law_kinds) (defScope s_law_kinds) .none kV24 dc24 pm24 an24 cd24 ct24), sl24⟩) (c24 : PySem.W.codeIn K cd24 "_law_kinds" = true) (k24 : PySem.W.keepIn K (.ref f24) = true)
    (a25 : PySem.W.nsIn K mainGlobals "_law_round" = some (some (.ref f25))) (l25 : K.lookup f25 = some ⟨oc25, od25, .func (PySem.W.fnOf "_law_round" "_law_round" (defArgs s_law_round) (defBody s_law_round) (defScope s_law_round) .none kV25 dc25 pm25 an25 cd25 ct25), sl25⟩) (c25 : PySem.W.codeIn K cd25 "_law_round" = true) (k25 : PySem.W.keepIn K (.ref f25) = true)
    (a26 : PySem.W.nsIn K mainGlobals "_law_sure" = some (some (.ref f26))) (l26 : K.lookup f26 = some ⟨oc26, od26, .func (PySem.W.fnOf "_law_sure" "_law_sure" (defArgs s_law_sure) (defBody s_law_sure) (defScope s_law_sure) .none kV26 dc26 pm26 an26 cd26 ct26), sl26⟩) (c26 : PySem.W.codeIn K cd26 "_law_sure" = true) (k26 : PySem.W.keepIn K (.ref f26) = true)
    (a27 : PySem.W.nsIn K mainGlobals "_law_way_due" = some (some (.ref f27))) (l27 : K.lookup f27 = some ⟨oc27, od27, .func (PySem.W.fnOf "_law_way_due" "_law_way_due" (defArgs s_law_way_due) (defBody s_law_way_due) (defScope s_law_way_due) .none kV27 dc27 pm27 an27 cd27 ct27), sl27⟩) (c27 : PySem.W.codeIn K cd27 "_law_way_due" = true) (k27 : PySem.W.keepIn K (.ref f27) = true)
    (a28 : PySem.W.nsIn K mainGlobals "_law_walked" = some (some (.ref f28))) (l28 : K.lookup f28 = some ⟨oc28, od28, .func (PySem.W.fnOf "_law_walked" "_law_walked" (defArgs s_law_walked) (defBody s_law_walked) (defScope s_law_walked) .none kV28 dc28 pm28 an28 cd28 ct28), sl28⟩) (c28 : PySem.W.codeIn K cd28 "_law_walked" = true) (k28 : PySem.W.keepIn K (.ref f28) = true)
    (a29 : PySem.W.nsIn K mainGlobals "_law_play" = some (some (.ref f29))) (l29 : K.lookup f29 = some ⟨oc29, od29, .func (PySem.W.fnOf "_law_play" "_law_play" (defArgs s_law_play) (defBody s_law_play) (defScope s_law_play) .none kV29 dc29 pm29 an29 cd29 ct29), sl29⟩) (c29 : PySem.W.codeIn K cd29 "_law_play" = true) (k29 : PySem.W.keepIn K (.ref f29) = true)
    (a30 : PySem.W.nsIn K mainGlobals "law" = some (some (.ref f30))) (l30 : K.lookup f30 = some ⟨oc30, od30, .func (PySem.W.fnOf "law" "law" (defArgs s_law) (defBody s_law) (defScope s_law) .none kV30 dc30 pm30 an30 cd30 ct30), sl30⟩) (c30 : PySem.W.codeIn K cd30 "law" = true) (k30 : PySem.W.keepIn K (.ref f30) = true)
    (z_bool : PySem.W.nsIn K mainGlobals "bool" = some none) (z_enumerate : PySem.W.nsIn K mainGlobals "enumerate" = some none) (z_int : PySem.W.nsIn K mainGlobals "int" = some none) (z_isinstance : PySem.W.nsIn K mainGlobals "isinstance" = some none) (z_len : PySem.W.nsIn K mainGlobals "len" = some none) (z_list : PySem.W.nsIn K mainGlobals "list" = some none) (z_min : PySem.W.nsIn K mainGlobals "min" = some none) (z_range : PySem.W.nsIn K mainGlobals "range" = some none) (z_set : PySem.W.nsIn K mainGlobals "set" = some none) (z_sorted : PySem.W.nsIn K mainGlobals "sorted" = some none) (z_tuple : PySem.W.nsIn K mainGlobals "tuple" = some none) (z_zip : PySem.W.nsIn K mainGlobals "zip" = some none) :
    ∃ fd : FuncData, (∀ (s : Shared) (v : Value), BindsTo s fd ⟨[v], []⟩ [("_law_script", v)]) ∧ ∀ base : Heap, K.In base → base.Ns mainGlobals mg → FnOk l.prog w K mg base CX0 11 fa fd ["_law_script"] (spLaw K) := by
  have e := hfa.symm.trans (PySem.W.mg_of X G a30)
  cases e
  have T : Txt mg := ⟨PySem.W.mg_none_of X G z_bool, PySem.W.mg_none_of X G z_enumerate, PySem.W.mg_none_of X G z_int, PySem.W.mg_none_of X G z_isinstance, PySem.W.mg_none_of X G z_len, PySem.W.mg_none_of X G z_list, PySem.W.mg_none_of X G z_min, PySem.W.mg_none_of X G z_range, PySem.W.mg_none_of X G z_set, PySem.W.mg_none_of X G z_sorted, PySem.W.mg_none_of X G z_tuple, PySem.W.mg_none_of X G z_zip⟩
  have F1 := fun_mk (st := s_is_whole) l1 c1 k1
  have B1 := F1.binds (ps := ["value"]) fun _ _ _ _ _ _ us hl => match us, hl with | [_], _ => rfl
  have A1 : DefAt K mg "is_whole" s_is_whole ["value"] := ⟨f1, _, F1, PySem.W.mg_of X G a1, B1⟩
  have F2 := fun_mk (st := s_is_place) l2 c2 k2
  have B2 := F2.binds (ps := ["value", "count"]) fun _ _ _ _ _ _ us hl => match us, hl with | [_, _], _ => rfl
  have A2 : DefAt K mg "is_place" s_is_place ["value", "count"] := ⟨f2, _, F2, PySem.W.mg_of X G a2, B2⟩
  have F3 := fun_mk (st := s_ways_in) l3 c3 k3
  have B3 := F3.binds (ps := ["game"]) fun _ _ _ _ _ _ us hl => match us, hl with | [_], _ => rfl
  have A3 : DefAt K mg "ways_in" s_ways_in ["game"] := ⟨f3, _, F3, PySem.W.mg_of X G a3, B3⟩
  have F4 := fun_mk (st := s_place_marks) l4 c4 k4
  have B4 := F4.binds (ps := ["count", "places"]) fun _ _ _ _ _ _ us hl => match us, hl with | [_, _], _ => rfl
  have A4 : DefAt K mg "place_marks" s_place_marks ["count", "places"] := ⟨f4, _, F4, PySem.W.mg_of X G a4, B4⟩
  have F5 := fun_mk (st := s_part_marks) l5 c5 k5
  have B5 := F5.binds (ps := ["game", "part"]) fun _ _ _ _ _ _ us hl => match us, hl with | [_, _], _ => rfl
  have A5 : DefAt K mg "part_marks" s_part_marks ["game", "part"] := ⟨f5, _, F5, PySem.W.mg_of X G a5, B5⟩
  have F6 := fun_mk (st := s_lacking_ways) l6 c6 k6
  have B6 := F6.binds (ps := ["game", "hand", "inside", "wanted"]) fun _ _ _ _ _ _ us hl => match us, hl with | [_, _, _, _], _ => rfl
  have A6 : DefAt K mg "lacking_ways" s_lacking_ways ["game", "hand", "inside", "wanted"] := ⟨f6, _, F6, PySem.W.mg_of X G a6, B6⟩
  have F7 := fun_mk (st := s_next_layer) l7 c7 k7
  have B7 := F7.binds (ps := ["layer", "entries", "lacking"]) fun _ _ _ _ _ _ us hl => match us, hl with | [_, _, _], _ => rfl
  have A7 : DefAt K mg "next_layer" s_next_layer ["layer", "entries", "lacking"] := ⟨f7, _, F7, PySem.W.mg_of X G a7, B7⟩
  have F8 := fun_mk (st := s_layers_to) l8 c8 k8
  have B8 := F8.binds (ps := ["game", "entries", "hand", "goal", "part"]) fun _ _ _ _ _ _ us hl => match us, hl with | [_, _, _, _, _], _ => rfl
  have A8 : DefAt K mg "layers_to" s_layers_to ["game", "entries", "hand", "goal", "part"] := ⟨f8, _, F8, PySem.W.mg_of X G a8, B8⟩
  have A9 : DefAtD K mg "pulled" s_pulled ["game", "hand", "goal", "part"] [.non] := by
    refine ⟨f9, _, _, _, _, _, _, _, _, _, _, [.none], l9, c9, k9, PySem.W.mg_of X G a9, fun s us KX hl => ?_, .cons rfl .nil⟩
    obtain ⟨u0, u1, u2, rfl⟩ : ∃ u0 u1 u2, us = [u0, u1, u2] := by
      rcases us with _ | ⟨u0, _ | ⟨u1, _ | ⟨u2, _ | ⟨w, ws⟩⟩⟩⟩
      · simp at hl
      · simp at hl
      · simp at hl
      · exact ⟨_, _, _, rfl⟩
      · simp at hl
    exact PySem.BindsTo.of_defaults (T := T9) rfl (KX _ _ d9) rfl rfl rfl
  have A9q : DefAtD K mg "pulled" s_pulled ["game", "hand", "goal", "part"] [] := by
    refine ⟨f9, _, _, _, _, _, _, _, _, _, _, [], l9, c9, k9, PySem.W.mg_of X G a9, fun s us KX hl => ?_, .nil⟩
    obtain ⟨u0, u1, u2, u3, rfl⟩ : ∃ u0 u1 u2 u3, us = [u0, u1, u2, u3] := by
      rcases us with _ | ⟨u0, _ | ⟨u1, _ | ⟨u2, _ | ⟨u3, _ | ⟨w, ws⟩⟩⟩⟩⟩
      · simp at hl
      · simp at hl
      · simp at hl
      · simp at hl
      · exact ⟨_, _, _, _, rfl⟩
      · simp at hl
    exact PySem.BindsTo.of_defaults (T := T9) rfl (KX _ _ d9) rfl rfl rfl
  have F10 := fun_mk (st := s_least_way) l10 c10 k10
  have B10 := F10.binds (ps := ["ways", "marks"]) fun _ _ _ _ _ _ us hl => match us, hl with | [_, _], _ => rfl
  have A10 : DefAt K mg "least_way" s_least_way ["ways", "marks"] := ⟨f10, _, F10, PySem.W.mg_of X G a10, B10⟩
  have F11 := fun_mk (st := s_layer_ways) l11 c11 k11
  have B11 := F11.binds (ps := ["game", "hand", "layers"]) fun _ _ _ _ _ _ us hl => match us, hl with | [_, _, _], _ => rfl
  have A11 : DefAt K mg "layer_ways" s_layer_ways ["game", "hand", "layers"] := ⟨f11, _, F11, PySem.W.mg_of X G a11, B11⟩
  have A12 : DefAtD K mg "pull_ways" s_pull_ways ["game", "hand", "goal", "part"] [.non] := by
    refine ⟨f12, _, _, _, _, _, _, _, _, _, _, [.none], l12, c12, k12, PySem.W.mg_of X G a12, fun s us KX hl => ?_, .cons rfl .nil⟩
    obtain ⟨u0, u1, u2, rfl⟩ : ∃ u0 u1 u2, us = [u0, u1, u2] := by
      rcases us with _ | ⟨u0, _ | ⟨u1, _ | ⟨u2, _ | ⟨w, ws⟩⟩⟩⟩
      · simp at hl
      · simp at hl
      · simp at hl
      · exact ⟨_, _, _, rfl⟩
      · simp at hl
    exact PySem.BindsTo.of_defaults (T := T12) rfl (KX _ _ d12) rfl rfl rfl
  have A12q : DefAtD K mg "pull_ways" s_pull_ways ["game", "hand", "goal", "part"] [] := by
    refine ⟨f12, _, _, _, _, _, _, _, _, _, _, [], l12, c12, k12, PySem.W.mg_of X G a12, fun s us KX hl => ?_, .nil⟩
    obtain ⟨u0, u1, u2, u3, rfl⟩ : ∃ u0 u1 u2 u3, us = [u0, u1, u2, u3] := by
      rcases us with _ | ⟨u0, _ | ⟨u1, _ | ⟨u2, _ | ⟨u3, _ | ⟨w, ws⟩⟩⟩⟩⟩
      · simp at hl
      · simp at hl
      · simp at hl
      · simp at hl
      · exact ⟨_, _, _, _, rfl⟩
      · simp at hl
    exact PySem.BindsTo.of_defaults (T := T12) rfl (KX _ _ d12) rfl rfl rfl
  have F13 := fun_mk (st := s_places_outside) l13 c13 k13
  have B13 := F13.binds (ps := ["game", "places"]) fun _ _ _ _ _ _ us hl => match us, hl with | [_, _], _ => rfl
  have A13 : DefAt K mg "places_outside" s_places_outside ["game", "places"] := ⟨f13, _, F13, PySem.W.mg_of X G a13, B13⟩
  have F14 := fun_mk (st := s_pulled_places) l14 c14 k14
  have B14 := F14.binds (ps := ["game", "hand", "goal"]) fun _ _ _ _ _ _ us hl => match us, hl with | [_, _, _], _ => rfl
  have A14 : DefAt K mg "pulled_places" s_pulled_places ["game", "hand", "goal"] := ⟨f14, _, F14, PySem.W.mg_of X G a14, B14⟩
  have F15 := fun_mk (st := s_kept) l15 c15 k15
  have B15 := F15.binds (ps := ["game", "hand", "some"]) fun _ _ _ _ _ _ us hl => match us, hl with | [_, _, _], _ => rfl
  have A15 : DefAt K mg "kept" s_kept ["game", "hand", "some"] := ⟨f15, _, F15, PySem.W.mg_of X G a15, B15⟩
  have F16 := fun_mk (st := s_keep_ways) l16 c16 k16
  have B16 := F16.binds (ps := ["game", "hand", "some"]) fun _ _ _ _ _ _ us hl => match us, hl with | [_, _, _], _ => rfl
  have A16 : DefAt K mg "keep_ways" s_keep_ways ["game", "hand", "some"] := ⟨f16, _, F16, PySem.W.mg_of X G a16, B16⟩
  have F17 := fun_mk (st := s_reached) l17 c17 k17
  have B17 := F17.binds (ps := ["game", "goal"]) fun _ _ _ _ _ _ us hl => match us, hl with | [_, _], _ => rfl
  have A17 : DefAt K mg "reached" s_reached ["game", "goal"] := ⟨f17, _, F17, PySem.W.mg_of X G a17, B17⟩
  have F18 := fun_mk (st := s_law_cell_at) l18 c18 k18
  have B18 := F18.binds (ps := ["_law_script", "_law_k"]) fun _ _ _ _ _ _ us hl => match us, hl with | [_, _], _ => rfl
  have A18 : DefAt K mg "_law_cell_at" s_law_cell_at ["_law_script", "_law_k"] := ⟨f18, _, F18, PySem.W.mg_of X G a18, B18⟩
  have F19 := fun_mk (st := s_law_many) l19 c19 k19
  have B19 := F19.binds (ps := ["_law_script"]) fun _ _ _ _ _ _ us hl => match us, hl with | [_], _ => rfl
  have A19 : DefAt K mg "_law_many" s_law_many ["_law_script"] := ⟨f19, _, F19, PySem.W.mg_of X G a19, B19⟩
  have F20 := fun_mk (st := s_law_ways) l20 c20 k20
  have B20 := F20.binds (ps := ["_law_one", "_law_other", "_law_k", "_law_many_here", "_law_near"]) fun _ _ _ _ _ _ us hl => match us, hl with | [_, _, _, _, _], _ => rfl
  have A20 : DefAt K mg "_law_ways" s_law_ways ["_law_one", "_law_other", "_law_k", "_law_many_here", "_law_near"] := ⟨f20, _, F20, PySem.W.mg_of X G a20, B20⟩
  have F21 := fun_mk (st := s_law_game) l21 c21 k21
  have B21 := F21.binds (ps := ["_law_script", "_law_many_here"]) fun _ _ _ _ _ _ us hl => match us, hl with | [_, _], _ => rfl
  have A21 : DefAt K mg "_law_game" s_law_game ["_law_script", "_law_many_here"] := ⟨f21, _, F21, PySem.W.mg_of X G a21, B21⟩
  have F22 := fun_mk (st := s_law_goal) l22 c22 k22
  have B22 := F22.binds (ps := ["_law_script", "_law_many_here"]) fun _ _ _ _ _ _ us hl => match us, hl with | [_, _], _ => rfl
  have A22 : DefAt K mg "_law_goal" s_law_goal ["_law_script", "_law_many_here"] := ⟨f22, _, F22, PySem.W.mg_of X G a22, B22⟩
  have F23 := fun_mk (st := s_law_whole) l23 c23 k23
  have B23 := F23.binds (ps := ["_law_found"]) fun _ _ _ _ _ _ us hl => match us, hl with | [_], _ => rfl
  have A23 : DefAt K mg "_law_whole" s_law_whole ["_law_found"] := ⟨f23, _, F23, PySem.W.mg_of X G a23, B23⟩
  have F24 := fun_mk (st := s_law_kinds) l24 c24 k24
  have B24 := F24.binds (ps := ["_law_game_here", "_law_found"]) fun _ _ _ _ _ _ us hl => match us, hl with | [_, _], _ => rfl
  have A24 : DefAt K mg "_law_kinds" s_law_kinds ["_law_game_here", "_law_found"] := ⟨f24, _, F24, PySem.W.mg_of X G a24, B24⟩
  have F25 := fun_mk (st := s_law_round) l25 c25 k25
  have B25 := F25.binds (ps := ["_law_game_here", "_law_ways_here", "_law_sure_here", "_law_k"]) fun _ _ _ _ _ _ us hl => match us, hl with | [_, _, _, _], _ => rfl
  have A25 : DefAt K mg "_law_round" s_law_round ["_law_game_here", "_law_ways_here", "_law_sure_here", "_law_k"] := ⟨f25, _, F25, PySem.W.mg_of X G a25, B25⟩
  have F26 := fun_mk (st := s_law_sure) l26 c26 k26
  have B26 := F26.binds (ps := ["_law_game_here", "_law_goal_here", "_law_ways_here"]) fun _ _ _ _ _ _ us hl => match us, hl with | [_, _, _], _ => rfl
  have A26 : DefAt K mg "_law_sure" s_law_sure ["_law_game_here", "_law_goal_here", "_law_ways_here"] := ⟨f26, _, F26, PySem.W.mg_of X G a26, B26⟩
  have F27 := fun_mk (st := s_law_way_due) l27 c27 k27
  have B27 := F27.binds (ps := ["_law_place", "_law_at", "_law_sure_here", "_law_goal_here"]) fun _ _ _ _ _ _ us hl => match us, hl with | [_, _, _, _], _ => rfl
  have A27 : DefAt K mg "_law_way_due" s_law_way_due ["_law_place", "_law_at", "_law_sure_here", "_law_goal_here"] := ⟨f27, _, F27, PySem.W.mg_of X G a27, B27⟩
  have F28 := fun_mk (st := s_law_walked) l28 c28 k28
  have B28 := F28.binds (ps := ["_law_game_here", "_law_goal_here", "_law_won", "_law_ways_here"]) fun _ _ _ _ _ _ us hl => match us, hl with | [_, _, _, _], _ => rfl
  have A28 : DefAt K mg "_law_walked" s_law_walked ["_law_game_here", "_law_goal_here", "_law_won", "_law_ways_here"] := ⟨f28, _, F28, PySem.W.mg_of X G a28, B28⟩
  have F29 := fun_mk (st := s_law_play) l29 c29 k29
  have B29 := F29.binds (ps := ["_law_script", "_law_game_here", "_law_goal_here", "_law_won", "_law_ways_here", "_law_at"]) fun _ _ _ _ _ _ us hl => match us, hl with | [_, _, _, _, _, _], _ => rfl
  have A29 : DefAt K mg "_law_play" s_law_play ["_law_script", "_law_game_here", "_law_goal_here", "_law_won", "_law_ways_here", "_law_at"] := ⟨f29, _, F29, PySem.W.mg_of X G a29, B29⟩
  have F30 := fun_mk (st := s_law) l30 c30 k30
  refine ⟨PySem.W.fnOf "law" "law" (defArgs s_law) (defBody s_law) (defScope s_law) .none kV30 dc30 pm30 an30 cd30 ct30, fun s v => .of_eq rfl, fun base _ _ => ?_⟩
  exact main (P := l.prog) (w := w) (base := base) T A1 A2 A3 A4 A5 A6 A7 A8 A9 A9q A10 A11 A12 A12q A13 A14 A15 A16 A17 A18 A19 A20 A21 A22 A23 A24 A25 A26 A27 A28 A29 F30
theorem walk {l : PySem.W.OpenLaw} {q : Program} {loose : List Str} {XP : (Str → Option Value) → Heap → Prop} {YP : World → Heap → Prop} {d : DefRec} {K : Params → PySem.W.Frag} (hn : l.most = some 63) (hdf : d.params.defaults = [])
    (hY : ∀ (w : World) (h : Heap), YP w h → (K w.params).In h)
    (F : ∀ (w : World) (mg : Str → Option Value) (fa : Addr) (h : Heap), (K w.params).In h → h.Ns mainGlobals mg → mg d.name = some (.ref fa) →
      ∃ fd : FuncData, (∀ (s : Shared) (u : Value), BindsTo s fd ⟨[u], []⟩ [("_law_script", u)]) ∧ ∀ base : Heap, (K w.params).In base → base.Ns mainGlobals mg → FnOk l.prog w (K w.params) mg base CX0 11 fa fd ["_law_script"] (spLaw (K w.params))) :
    PySem.W.WalkO q loose XP YP l.row.toRowW d [] (fun f vs => PySem.call f vs) :=
  L2.walk_of (n := 63) (k := 11) (x := "_law_script") (CX := fun _ => CX0) (sp := fun w => spLaw (K w.params)) hn (by decide) hdf ⟨rfl, by decide, by decide⟩ hY F (fun _ _ a ns hl _ hS => ⟨a, ns, rfl, hS, hl, fun _ => rfl⟩) fun _ _ _ _ _ z => z
end Law
open PySem PySem.W PyProof.Rows
set_option maxRecDepth 100000 in
set_option maxHeartbeats 0 in
theorem PySem.Challenge.cw_rankgarth_k11_whole_reached_holds : PySem.Challenge.rw_rankgarth_k11_whole_reached.Holds := by
  w_on; o_law; k_head; (case hw => w_witness2)
  k_fill
  refine Law.walk (l := PySem.Challenge.rw_rankgarth_k11_whole_reached) rfl rfl (fun w h Y => PySem.W.kIn_of Y) ?F
  case F =>
    intro w mg fa h KX G hmg
    refine' Law.all_mk KX G hmg  ?d9 ?d12 ?a1 ?l1 ?c1 ?k1 ?a2 ?l2 ?c2 ?k2 ?a3 ?l3 ?c3 ?k3 ?a4 ?l4 ?c4 ?k4 ?a5 ?l5 ?c5 ?k5 ?a6 ?l6 ?c6 ?k6 ?a7 ?l7 ?c7 ?k7 ?a8 ?l8 ?c8 ?k8 ?a9 ?l9 ?c9 ?k9 ?a10 ?l10 ?c10 ?k10 ?a11 ?l11 ?c11 ?k11 ?a12 ?l12 ?c12 ?k12 ?a13 ?l13 ?c13 ?k13 ?a14 ?l14 ?c14 ?k14 ?a15 ?l15 ?c15 ?k15 ?a16 ?l16 ?c16 ?k16 ?a17 ?l17 ?c17 ?k17 ?a18 ?l18 ?c18 ?k18 ?a19 ?l19 ?c19 ?k19 ?a20 ?l20 ?c20 ?k20 ?a21 ?l21 ?c21 ?k21 ?a22 ?l22 ?c22 ?k22 ?a23 ?l23 ?c23 ?k23 ?a24 ?l24 ?c24 ?k24 ?a25 ?l25 ?c25 ?k25 ?a26 ?l26 ?c26 ?k26 ?a27 ?l27 ?c27 ?k27 ?a28 ?l28 ?c28 ?k28 ?a29 ?l29 ?c29 ?k29 ?a30 ?l30 ?c30 ?k30 ?z_bool ?z_enumerate ?z_int ?z_isinstance ?z_len ?z_list ?z_min ?z_range ?z_set ?z_sorted ?z_tuple ?z_zip
    (case a1 => k_is); (case l1 => k_is); (case c1 => k_is); (case k1 => k_is)
    (case a2 => k_is); (case l2 => k_is); (case c2 => k_is); (case k2 => k_is)
    (case a3 => k_is); (case l3 => k_is); (case c3 => k_is); (case k3 => k_is)
    (case a4 => k_is); (case l4 => k_is); (case c4 => k_is); (case k4 => k_is)
    (case a5 => k_is); (case l5 => k_is); (case c5 => k_is); (case k5 => k_is)
    (case a6 => k_is); (case l6 => k_is); (case c6 => k_is); (case k6 => k_is)
    (case a7 => k_is); (case l7 => k_is); (case c7 => k_is); (case k7 => k_is)
    (case a8 => k_is); (case l8 => k_is); (case c8 => k_is); (case k8 => k_is)
    (case a9 => k_is); (case l9 => k_is); (case c9 => k_is); (case k9 => k_is); (case d9 => k_is)
    (case a10 => k_is); (case l10 => k_is); (case c10 => k_is); (case k10 => k_is)
    (case a11 => k_is); (case l11 => k_is); (case c11 => k_is); (case k11 => k_is)
    (case a12 => k_is); (case l12 => k_is); (case c12 => k_is); (case k12 => k_is); (case d12 => k_is)
    (case a13 => k_is); (case l13 => k_is); (case c13 => k_is); (case k13 => k_is)
    (case a14 => k_is); (case l14 => k_is); (case c14 => k_is); (case k14 => k_is)
    (case a15 => k_is); (case l15 => k_is); (case c15 => k_is); (case k15 => k_is)
    (case a16 => k_is); (case l16 => k_is); (case c16 => k_is); (case k16 => k_is)
    (case a17 => k_is); (case l17 => k_is); (case c17 => k_is); (case k17 => k_is)
    (case a18 => k_is); (case l18 => k_is); (case c18 => k_is); (case k18 => k_is)
    (case a19 => k_is); (case l19 => k_is); (case c19 => k_is); (case k19 => k_is)
    (case a20 => k_is); (case l20 => k_is); (case c20 => k_is); (case k20 => k_is)
    (case a21 => k_is); (case l21 => k_is); (case c21 => k_is); (case k21 => k_is)
    (case a22 => k_is); (case l22 => k_is); (case c22 => k_is); (case k22 => k_is)
    (case a23 => k_is); (case l23 => k_is); (case c23 => k_is); (case k23 => k_is)
    (case a24 => k_is); (case l24 => k_is); (case c24 => k_is); (case k24 => k_is)
    (case a25 => k_is); (case l25 => k_is); (case c25 => k_is); (case k25 => k_is)
    (case a26 => k_is); (case l26 => k_is); (case c26 => k_is); (case k26 => k_is)
    (case a27 => k_is); (case l27 => k_is); (case c27 => k_is); (case k27 => k_is)
    (case a28 => k_is); (case l28 => k_is); (case c28 => k_is); (case k28 => k_is)
    (case a29 => k_is); (case l29 => k_is); (case c29 => k_is); (case k29 => k_is)
    (case a30 => k_is); (case l30 => k_is); (case c30 => k_is); (case k30 => k_is)
    (case z_bool => k_is)
    (case z_enumerate => k_is)
    (case z_int => k_is)
    (case z_isinstance => k_is)
    (case z_len => k_is)
    (case z_list => k_is)
    (case z_min => k_is)
    (case z_range => k_is)
    (case z_set => k_is)
    (case z_sorted => k_is)
    (case z_tuple => k_is)
    (case z_zip => k_is)
