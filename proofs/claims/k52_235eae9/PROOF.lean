import PyProof.Rows.All
import Wide.All
import OpenK.AllK
import Wide.FinOn
import Lean
import PyProof.EqAt
import PyProof.EqKinds
import PyProof.TupleCall
import PyProof.NeKinds
import KE.KDictSum
import PyProof.Rows.SetFrom
import KE.KSortTup
import PySem.Challenge.RW_rankgarth_k52_two_machines
set_option Elab.async false
set_option linter.all false
set_option maxRecDepth 100000
namespace L2
open PySem PySem.Spec PyProof.Rows
abbrev Key := Sum Int Str
def keyIs : Key → Value → Bool
  | .inl k, v => Value.isInt k v
  | .inr x, v => Value.isStrOf x v
def keyH (w : World) : Key → Int
  | .inl k => hashInt k
  | .inr x => hashStr w x
theorem keyIs_shape : ∀ {k : Key} {v : Value}, keyIs k v = true → (∃ i t, k = Sum.inl i ∧ v = Value.int i t) ∨ (∃ x t, k = Sum.inr x ∧ v = Value.str x t)
  | .inl i, v, h => by
    obtain ⟨t, e⟩ := Value.isInt_shape (k := i) (v := v) h
    exact .inl ⟨i, t, rfl, e⟩
  | .inr x, v, h => by
    obtain ⟨t, e⟩ := Value.isStrOf_shape (x := x) (v := v) h
    exact .inr ⟨x, t, rfl, e⟩
theorem keyIs_int (i : Int) (t : Tok) : keyIs (.inl i) (.int i t) = true := by simp [keyIs, Value.isInt]
theorem keyIs_str (x : Str) (t : Tok) : keyIs (.inr x) (.str x t) = true := by simp [keyIs, Value.isStrOf]
theorem key_ll (a b : Int) : decide ((Sum.inl a : Key) = Sum.inl b) = (a == b) := by
  by_cases e : a = b
  · subst e; simp
  · have h : ¬ (Sum.inl a : Key) = Sum.inl b := fun q => e (Sum.inl.inj q)
    rw [decide_eq_false h]
    exact (beq_eq_false_iff_ne.mpr e).symm
theorem key_rr (a b : Str) : decide ((Sum.inr a : Key) = Sum.inr b) = decide (a = b) := by
  by_cases e : a = b
  · subst e; simp
  · have h : ¬ (Sum.inr a : Key) = Sum.inr b := fun q => e (Sum.inr.inj q)
    rw [decide_eq_false h, decide_eq_false e]
theorem key_lr (a : Int) (b : Str) : decide ((Sum.inl a : Key) = Sum.inr b) = false := decide_eq_false (fun q => nomatch q)
theorem key_rl (a : Str) (b : Int) : decide ((Sum.inr a : Key) = Sum.inl b) = false := decide_eq_false (fun q => nomatch q)
def mixKind (prog : Program) (w : World) : PySem.KeyKind prog w Key where
  is := keyIs
  hash := keyH w
  inj := fun v a b ha hb => by
    rcases keyIs_shape ha with ⟨i, t, rfl, rfl⟩ | ⟨x, t, rfl, rfl⟩
    · rcases keyIs_shape hb with ⟨j, u, rfl, e⟩ | ⟨y, u, rfl, e⟩
      · injection e with e1 _; rw [e1]
      · exact nomatch e
    · rcases keyIs_shape hb with ⟨j, u, rfl, e⟩ | ⟨y, u, rfl, e⟩
      · exact nomatch e
      · injection e with e1 _; rw [e1]
  byValue := fun k v h => by
    rcases keyIs_shape h with ⟨i, t, rfl, rfl⟩ | ⟨x, t, rfl, rfl⟩ <;> rfl
  pyHash := fun hv h => by
    rcases keyIs_shape hv with ⟨i, t, rfl, rfl⟩ | ⟨x, t, rfl, rfl⟩
    · exact wpAny_pyHash_int h
    · exact wpAny_pyHash_str h
  eqBool := fun hu hv h => by
    rcases keyIs_shape hu with ⟨i, t, rfl, rfl⟩ | ⟨x, t, rfl, rfl⟩
    · rcases keyIs_shape hv with ⟨j, u, rfl, rfl⟩ | ⟨y, u, rfl, rfl⟩
      · rw [key_ll] at h; exact wpAny_eqBool_int h
      · rw [key_lr] at h; exact SeqAt.EqAt.int_str i t y u _ _ _ _ h
    · rcases keyIs_shape hv with ⟨j, u, rfl, rfl⟩ | ⟨y, u, rfl, rfl⟩
      · rw [key_rl] at h; exact SeqAt.EqAt.str_int x t j u _ _ _ _ h
      · rw [key_rr] at h; exact wpAny_eqBool_str h
  «strs» := fun k x t v h => by
    rcases keyIs_shape h with ⟨i, u, rfl, e⟩ | ⟨y, u, rfl, e⟩
    · exact nomatch e
    · injection e with e1 _
      subst e1
      cases v <;> rfl
theorem mixKind_int (prog : Program) (w : World) (i : Int) (t : Tok) : (mixKind prog w).is (.inl i) (.int i t) = true := keyIs_int i t
theorem mixKind_str (prog : Program) (w : World) (x : Str) (t : Tok) : (mixKind prog w).is (.inr x) (.str x t) = true := keyIs_str x t
end L2
namespace L2
open PySem PySem.Spec PyProof.Rows
inductive V where
  | non | bl (b : Bool) | int (i : Int) | str (x : Str) | byt (b : Array UInt8) | flt (b : UInt64) | ref (a : Addr) | ty (n : String)
  deriving DecidableEq
def RelV : V → Value → Prop
  | .non, u => u = Value.none
  | .bl b, u => u = Value.bool b
  | .int i, u => ∃ t, u = Value.int i t
  | .str x, u => ∃ t, u = Value.str x t
  | .byt b, u => ∃ t, u = Value.bytes b t
  | .flt b, u => ∃ t, u = Value.float b t
  | .ref a, u => u = Value.ref a
  | .ty n, u => u = Value.type n
abbrev Vals : List V → List Value → Prop := Paired RelV
theorem Vals.length {xs : List V} {us : List Value} (r : Vals xs us) : xs.length = us.length := Paired.length r
theorem Vals.get : ∀ {xs : List V} {us : List Value} {i : Nat} {x : V}, Vals xs us → xs[i]? = some x → ∃ u, us[i]? = some u ∧ RelV x u
  | _, _, _, _, .nil, e => by simp at e
  | _, _, 0, _, .cons r _, e => by simp at e; subst e; exact ⟨_, rfl, r⟩
  | _, _, i + 1, x, .cons _ t, e => by
    obtain ⟨u, h1, h2⟩ := Vals.get (i := i) (x := x) t (by simpa using e)
    exact ⟨u, by simpa using h1, h2⟩
theorem Vals.set {x : V} {u : Value} (r : RelV x u) : ∀ {xs : List V} {us : List Value} (i : Nat), Vals xs us → Vals (xs.set i x) (us.set i u)
  | _, _, _, .nil => .nil
  | _, _, 0, .cons _ t => .cons r t
  | _, _, i + 1, .cons q t => .cons q (Vals.set r i t)
theorem Vals.append : ∀ {xs ys : List V} {us ws : List Value}, Vals xs us → Vals ys ws → Vals (xs ++ ys) (us ++ ws)
  | _, _, _, _, .nil, s => s
  | _, _, _, _, .cons r t, s => .cons r (Vals.append t s)
theorem Vals.take : ∀ {xs : List V} {us : List Value} (n : Nat), Vals xs us → Vals (xs.take n) (us.take n)
  | _, _, 0, _ => .nil
  | _, _, _ + 1, .nil => .nil
  | _, _, n + 1, .cons r t => .cons r (Vals.take n t)
theorem Vals.drop : ∀ {xs : List V} {us : List Value} (n : Nat), Vals xs us → Vals (xs.drop n) (us.drop n)
  | _, _, 0, r => r
  | _, _, _ + 1, .nil => .nil
  | _, _, n + 1, .cons _ t => Vals.drop n t
def RelO : Option V → Option Value → Prop
  | some v, some u => RelV v u
  | none, none => True
  | _, _ => False
def KV {κ : Type} : List (κ × V) → List (κ × Value) → Prop := Paired fun (p : κ × V) (q : κ × Value) => p.1 = q.1 ∧ RelV p.2 q.2
def kV : Key → V
  | .inl i => .int i
  | .inr x => .str x
inductive HO where
    | lst (xs : List V)
    | tup (xs : List V)
    | dK (kvs : List (Key × V)) | dT (kvs : List (List Key × V))
    | set (S : Int → Bool) (n : Nat)
    | ins (C dx : Addr) (fs : List (Str × V))
    | own (x : Addr)
    | xd (fs : List (Str × V))
    | met (f x : Addr)
    | rng (lo hi : Int)
    | frz (o : Obj) (u : HO)
    | tbl (ps : Array Value)
    | ext (φ : Heap → Prop)
abbrev Hp := Addr → Option HO
def upd (H : Hp) (a : Addr) (o : HO) : Hp := fun b => if b = a then some o else H b
theorem upd_same {H : Hp} {a : Addr} {o : HO} : upd H a o a = some o := by unfold upd; rw [if_pos rfl]
theorem upd_ne {H : Hp} {a b : Addr} {o : HO} (h : b ≠ a) : upd H a o b = H b := by unfold upd; rw [if_neg h]
theorem ne_of {H : Hp} {a b : Addr} {o u : HO} (h : H a = some o) (h' : H b = some u) (d : o ≠ u) : a ≠ b := by
  intro e; subst e; rw [h] at h'; exact d (Option.some.inj h')
theorem ne_of_none {H : Hp} {a b : Addr} {o : HO} (h : H a = some o) (h' : H b = none) : a ≠ b := by
  intro e; subst e; rw [h] at h'; cases h'
section
variable (P : Program) (w : World)
def ObjOk (H : Hp) (h : Heap) (a : Addr) : HO → Prop
  | .lst xs => xs.length ≤ sizeLine ∧ ∃ (its : List Value) (n : Nat), Vals xs its ∧ h.get? a = some { cls := .type "list", data := .seq its.toArray n }
  | .tup xs => xs.length ≤ sizeLine ∧ ∃ its : List Value, Vals xs its ∧ IsTup h a its.toArray
  | .dK kvs => kvs.length ≤ sizeLine ∧ (a == sysModules) = false ∧ ∃ vs, KV kvs vs ∧ h.DictOf (mixKind P w) a vs
  | .dT kvs => kvs.length ≤ sizeLine ∧ (a == sysModules) = false ∧ ∃ xs : List (List Key × Addr × Value),
      Paired (fun (p : List Key × V) (q : List Key × Addr × Value) => p.1 = q.1 ∧ H q.2.1 = some (.tup (p.1.map kV)) ∧ RelV p.2 q.2.2) kvs xs ∧
      ∃ o es ep, h.get? a = some o ∧ o.ExactDict ∧ o.data = .dict es ep ∧ es.toList = xs.map (entryOfKey (tupleKind (mixKind P w))) ∧ (xs.map (·.1)).Nodup
  | .set S n => h.SetOf (intKind P w) a S n
  | .ins C dx fs => H dx = some (.own a) ∧ fs.length ≤ 1000 ∧ dx ≠ a ∧ h.get? a = some (PySem.W.instObj C dx) ∧
      ∃ mA, h.Ns1 dx mA ∧ (∀ f, RelO (fs.lookup f) (mA f)) ∧ PySem.Within mA (fs.map (·.1))
  | .own _ => ∃ o, h.get? a = some o
  | .xd fs => ∃ mA, h.Ns1 a mA ∧ ∀ f, RelO (fs.lookup f) (mA f)
  | .rng lo hi => ∃ t u v, h.get? a = some { cls := .type "range", data := .fields #[.int lo t, .int hi u, .int 1 v] }
  | .frz o u => h.get? a = some o ∧ ObjOk H h a u
  | .tbl ps => h.get? a = some { cls := .none, data := .fields ps }
  | .met f x => h.get? a = some (PySem.W.methodObj (.ref f) (.ref x))
  | .ext φ => φ h ∧ (∃ o, h.get? a = some o) ∧ ∀ h1 h2 : Heap, φ h1 → (∀ o, h1.get? a = some o → h2.get? a = some o) → φ h2
def HOk (H : Hp) (h : Heap) : Prop := ∀ a o, H a = some o → ObjOk P w H h a o
end
section
variable {P : Program} {w : World} {H H' : Hp} {h h' : Heap} {a : Addr} {o : HO}
theorem ObjOk.lt (x : ObjOk P w H h a o) : a < h.objs.size := by
  cases o with
  | lst xs => obtain ⟨_, _, _, _, e⟩ := x; exact Heap.lt_size e
  | tup xs => obtain ⟨_, _, _, p⟩ := x; exact p.lt
  | dK kvs => obtain ⟨_, _, _, _, o, _, _, e, _⟩ := x; exact Heap.lt_size e
  | dT kvs => obtain ⟨_, _, _, _, o, _, _, e, _⟩ := x; exact Heap.lt_size e
  | set S n => obtain ⟨o, _, _, _, e, _⟩ := x; exact Heap.lt_size e
  | ins C dx fs => obtain ⟨_, _, _, e, _⟩ := x; exact Heap.lt_size e
  | own y => obtain ⟨_, e⟩ := x; exact Heap.lt_size e
  | xd fs => obtain ⟨_, ⟨_, _, _, e, _⟩, _⟩ := x; exact Heap.lt_size e
  | rng lo hi => obtain ⟨_, _, _, e⟩ := x; exact Heap.lt_size e
  | frz ob u => obtain ⟨e, _⟩ := x; exact Heap.lt_size e
  | tbl ps => exact Heap.lt_size (show h.get? a = some _ from x)
  | met f y => exact Heap.lt_size (show h.get? a = some _ from x)
  | ext φ => obtain ⟨_, ⟨_, e⟩, _⟩ := x; exact Heap.lt_size e
theorem Paired.mapP {α β : Type} {F G : α → β → Prop} : ∀ {l₁ : List α} {l₂ : List β}, Paired F l₁ l₂ → (∀ a b, F a b → G a b) → Paired G l₁ l₂
  | _, _, .nil, _ => .nil
  | _, _, .cons r t, f => .cons (f _ _ r) (Paired.mapP t f)
theorem Paired.imp' {α β : Type} {F G : α → β → Prop} (f : ∀ a b, F a b → G a b) {l₁ : List α} {l₂ : List β} (r : Paired F l₁ l₂) : Paired G l₁ l₂ := Paired.mapP r f
theorem ObjOk.stay (x : ObjOk P w H h a o) (k : ∀ b u, (b = a ∨ H b = some (.own a)) → h.get? b = some u → h'.get? b = some u)
    (ho : ∀ b, H b = some (.own a) → H' b = some (.own a)) (ht : ∀ b xs, H b = some (.tup xs) → H' b = some (.tup xs)) : ObjOk P w H' h' a o := by
  induction o with
  | lst xs => obtain ⟨z, its, n, r, e⟩ := x; exact ⟨z, its, n, r, k _ _ (.inl rfl) e⟩
  | tup xs => obtain ⟨z, its, r, ob, e, c⟩ := x; exact ⟨z, its, r, ob, k _ _ (.inl rfl) e, c⟩
  | dK kvs => obtain ⟨z, y, vs, r, ob, es, ep, e, c⟩ := x; exact ⟨z, y, vs, r, ob, es, ep, k _ _ (.inl rfl) e, c⟩
  | dT kvs =>
    obtain ⟨z, y, xs, r, ob, es, ep, e, c⟩ := x
    exact ⟨z, y, xs, Paired.mapP r fun p q z => ⟨z.1, ht _ _ z.2.1, z.2.2⟩, ob, es, ep, k _ _ (.inl rfl) e, c⟩
  | set S n => obtain ⟨ob, es, ep, t, e, c⟩ := x; exact ⟨ob, es, ep, t, k _ _ (.inl rfl) e, c⟩
  | ins C dx fs =>
    obtain ⟨d, z, ne, e, mA, ⟨od, es, ep, e2, c⟩, r⟩ := x
    exact ⟨ho _ d, z, ne, k _ _ (.inl rfl) e, mA, ⟨od, es, ep, k _ _ (.inr d) e2, c⟩, r⟩
  | own y => obtain ⟨ob, e⟩ := x; exact ⟨ob, k _ _ (.inl rfl) e⟩
  | xd fs => obtain ⟨mA, ⟨od, es, ep, e, c⟩, r⟩ := x; exact ⟨mA, ⟨od, es, ep, k _ _ (.inl rfl) e, c⟩, r⟩
  | rng lo hi => obtain ⟨t, u, v, e⟩ := x; exact ⟨t, u, v, k _ _ (.inl rfl) e⟩
  | frz ob u ih => obtain ⟨e, q⟩ := x; exact ⟨k _ _ (.inl rfl) e, ih q⟩
  | tbl ps =>
    have e : h.get? a = some { cls := .none, data := .fields ps } := x
    show h'.get? a = some { cls := .none, data := .fields ps }
    exact k a _ (.inl rfl) e
  | met f y =>
    have e : h.get? a = some (PySem.W.methodObj (.ref f) (.ref y)) := x
    show h'.get? a = some (PySem.W.methodObj (.ref f) (.ref y))
    exact k a _ (.inl rfl) e
  | ext φ => obtain ⟨p, ⟨o, e⟩, st⟩ := x; exact ⟨st _ _ p fun o q => k _ _ (.inl rfl) q, ⟨o, k _ _ (.inl rfl) e⟩, st⟩
theorem HOk.lt (x : HOk P w H h) (e : H a = some o) : a < h.objs.size := (x a o e).lt
theorem HOk.fresh (x : HOk P w H h) (e : h.objs.size ≤ a) : H a = none := by
  cases q : H a with
  | none => rfl
  | some u => exact absurd (Nat.lt_of_lt_of_le (x.lt q) e) (Nat.lt_irrefl _)
theorem HOk.kept (x : HOk P w H h) (k : ∀ b u, h.get? b = some u → h'.get? b = some u) : HOk P w H h' := fun a o e =>
  (x a o e).stay (fun b u _ q => k b u q) (fun _ q => q) fun _ _ q => q
theorem HOk.laid (x : HOk P w H h) (k : ∀ b u, h.get? b = some u → h'.get? b = some u) (hp : h.objs.size ≤ a) (new : ObjOk P w (upd H a o) h' a o) : HOk P w (upd H a o) h' := fun b u e => by
  have hn := x.fresh hp
  by_cases hb : b = a
  · subst hb; rw [upd_same] at e; cases e; exact new
  · rw [upd_ne hb] at e
    exact (x b u e).stay (fun c v _ q => k c v q) (fun c q => by rw [upd_ne (ne_of_none q hn)]; exact q) fun c xs q => by rw [upd_ne (ne_of_none q hn)]; exact q
end
def Rd (H : Hp) (a : Addr) (u : HO) : Prop := H a = some u ∨ ∃ o, H a = some (.frz o u)
theorem Rd.ok {P : Program} {w : World} {H : Hp} {h : Heap} {a : Addr} {u : HO} (r : Rd H a u) (x : HOk P w H h) : ObjOk P w H h a u := by
  rcases r with r | ⟨o, r⟩
  · exact x a u r
  · obtain ⟨_, q⟩ := x a _ r
    exact q
def Mut : Option HO → Prop
  | some (.lst _) => True
  | some (.dK _) => True
  | some (.dT _) => True
  | some (.set _ _) => True
  | some (.ins _ _ _) => True
  | some (.ext _) => True
  | _ => False
section
variable {P : Program} {w : World} {H : Hp} {h h' : Heap} {x e : Addr} {o' : HO}
theorem HOk.write (ok : HOk P w H h) (mu : Mut (H x)) (he : e = x ∨ H e = some (.own x)) (k : ∀ b u, b ≠ e → h.get? b = some u → h'.get? b = some u) (heo : ∃ u, h'.get? e = some u)
    (new : ObjOk P w (upd H x o') h' x o') : HOk P w (upd H x o') h' := fun b u q => by
  have nown : ∀ c y, H c = some (.own y) → c ≠ x := fun c y r z => by subst z; rw [r] at mu; exact mu
  have ntup : ∀ c xs, H c = some (.tup xs) → c ≠ x := fun c xs r z => by subst z; rw [r] at mu; exact mu
  by_cases hb : b = x
  · subst hb; rw [upd_same] at q; cases q; exact new
  · rw [upd_ne hb] at q
    by_cases hbe : b = e
    · have q' : H b = some (.own x) := by
        rcases he with z | z
        · exact absurd (hbe.trans z) hb
        · rw [hbe]; exact z
      rw [q] at q'; cases q'
      obtain ⟨v, hv⟩ := heo
      exact ⟨v, by rw [hbe]; exact hv⟩
    · refine (ok b u q).stay (fun c v hc r => k c v ?_ r) (fun c r => by rw [upd_ne (nown c b r)]; exact r) fun c xs r => by rw [upd_ne (ntup c xs r)]; exact r
      rcases hc with rfl | hc
      · exact hbe
      · rintro rfl
        rcases he with z | z
        · exact nown c b hc z
        · rw [hc] at z; cases z; exact hb rfl
end
structure Un (fs ex : List Addr) (H H' : Hp) (h h' : Heap) : Prop where
  keep : ∀ b o, h.get? b = some o → H b = none → b ∉ fs → b ∉ ex → h'.get? b = some o
  slot : ∀ b o, h.get? b = some o → H b = none → b ∈ fs → b ∉ ex → ∃ sl, h'.get? b = some { o with slots := sl }
  free : ∀ b o, h.get? b = some o → H b = none → b ∉ ex → H' b = none
  there : ∀ b o, h.get? b = some o → b ∉ ex → ∃ o', h'.get? b = some o'
  tups : ∀ b xs, H b = some (.tup xs) → H' b = some (.tup xs)
  frzs : ∀ b o u, H b = some (.frz o u) → H' b = some (.frz o u)
  tbls : ∀ b ps, H b = some (.tbl ps) → ∃ more, H' b = some (.tbl (ps ++ more))
section
variable {fs fs' ex ex' : List Addr} {H H1 H2 : Hp} {h h1 h2 h' : Heap} {a x e : Addr} {o : HO}
theorem Un.any (u : Un fs ex H H1 h h1) {b : Addr} {ob : Obj} (q : h.get? b = some ob) (n : H b = none) (hx : b ∉ ex) : ∃ sl, h1.get? b = some { ob with slots := sl } := by
  by_cases hb : b ∈ fs
  · exact u.slot b ob q n hb hx
  · exact ⟨ob.slots, u.keep b ob q n hb hx⟩
theorem Un.kept (k : ∀ b u, h.get? b = some u → h'.get? b = some u) : Un fs ex H H h h' :=
  ⟨fun b ob q _ _ _ => k b ob q, fun b ob q _ _ _ => ⟨ob.slots, k b ob q⟩, fun _ _ _ n _ => n, fun b ob q _ => ⟨ob, k b ob q⟩, fun _ _ q => q, fun _ _ _ q => q, fun _ ps q => ⟨#[], by rw [q]; simp⟩⟩
theorem Un.refl : Un fs ex H H h h := Un.kept fun _ _ q => q
theorem Un.laid (k : ∀ b u, h.get? b = some u → h'.get? b = some u) (hp : h.objs.size ≤ a) (hn : H a = none) : Un fs ex H (upd H a o) h h' where
  keep := fun b u q _ _ _ => k b u q
  slot := fun b u q _ _ _ => ⟨u.slots, k b u q⟩
  free := fun b u q n _ => by rw [upd_ne (Nat.ne_of_lt (Nat.lt_of_lt_of_le (Heap.lt_size q) hp))]; exact n
  there := fun b u q _ => ⟨u, k b u q⟩
  tups := fun b xs q => by rw [upd_ne (ne_of_none q hn)]; exact q
  frzs := fun b u xs q => by rw [upd_ne (ne_of_none q hn)]; exact q
  tbls := fun b ps q => ⟨#[], by rw [upd_ne (ne_of_none q hn), q]; simp⟩
theorem Un.write (mu : Mut (H x)) (he : e = x ∨ H e = some (.own x)) (k : ∀ b u, b ≠ e → h.get? b = some u → h'.get? b = some u) (heo : ∃ u, h'.get? e = some u) : Un fs ex H (upd H x o) h h' := by
  have hx : ∀ b, H b = none → b ≠ x := fun b n z => by subst z; rw [n] at mu; exact mu
  have hb : ∀ b, H b = none → b ≠ e := fun b n z => by
    subst z
    rcases he with r | r
    · exact hx b n r
    · rw [n] at r; cases r
  have hm : ∀ b u, H b = some u → ¬ Mut (some u) → b ≠ x := fun b u q nm z => by subst z; rw [q] at mu; exact nm mu
  refine ⟨fun b u q n _ _ => k b u (hb b n) q, fun b u q n _ _ => ⟨u.slots, k b u (hb b n) q⟩, fun b u q n _ => by rw [upd_ne (hx b n)]; exact n, fun b u q _ => ?_,
    fun b xs q => by rw [upd_ne (hm b _ q fun z => z)]; exact q, fun b u xs q => by rw [upd_ne (hm b _ q fun z => z)]; exact q, fun b ps q => ⟨#[], by rw [upd_ne (hm b _ q fun z => z), q]; simp⟩⟩
  by_cases hbe : b = e
  · subst hbe; exact heo
  · exact ⟨u, k b u hbe q⟩
end
def trk (h : Heap) (H : Hp) : List Addr := (List.range h.objs.size).filter fun a => (H a).isSome
def hidT (h : Heap) (H : Hp) : Heap := PySem.W.hideAll h (trk h H)
theorem hidT_size (h : Heap) (H : Hp) : (hidT h H).objs.size = h.objs.size := PySem.W.hideAll_size _ _
theorem hidT_get {h : Heap} {H : Hp} {b : Addr} {o : Obj} (e : h.get? b = some o) (n : H b = none) : (hidT h H).get? b = some o :=
  PySem.W.hideAll_get _ e fun hm => by
    have q : (H b).isSome = true := (List.mem_filter.mp hm).2
    rw [n] at q; simp at q
theorem of_hidT {h : Heap} {H : Hp} {b : Addr} {o : Obj} (e : (hidT h H).get? b = some o) : h.get? b = some o ∧ H b = none := by
  have e' : h.get? b = some o := PySem.W.of_hideAll (trk h H) e
  refine ⟨e', ?_⟩
  cases q : H b with
  | none => rfl
  | some x =>
    have hm : b ∈ trk h H := List.mem_filter.mpr ⟨List.mem_range.mpr (Heap.lt_size e'), by simp [q]⟩
    have z : (hidT h H).get? b = none := PySem.W.hideAll_none (trk h H) hm
    rw [z] at e; cases e
end L2
namespace L2
open PySem PySem.Spec PyProof.Rows
structure Mod (K : PySem.W.Frag) (mg : Str → Option Value) (base : Heap) : Prop where
  kin : K.In base
  glob : base.Ns mainGlobals mg
  blt : ∃ mb, base.Ns builtinsNs mb ∧ ∀ x : Str, x ≠ "__name__" → mb x = bootBuiltins x
  nolimit : base.NoLimit
structure Cx where
  prog : Program
  w : World
  K : PySem.W.Frag
  mg : Str → Option Value
  base : Heap
  A : Around
  N : List Str
  s₀ : Shared
  H₀ : Hp
  env : Env
  outer : List Env
  stack : List Env
  ex : List Addr
  fn : Str → Bool
  calm : Bool
  pn : List (Addr × Obj)
  xe : Value → Shared → Prop
def frs (l : List Env) : List Addr := l.filterMap (·.frame)
abbrev Cx.fs (X : Cx) : List Addr := frs X.outer
def Vis (sc : Scope) (x : Str) : Prop := sc.names.lookup x = some .local ∨ sc.names.lookup x = some .cell ∨ sc.names.lookup x = some .free
def Loc (sc : Scope) (x : Str) : Prop := sc.names.lookup x = some .local ∨ sc.names.lookup x = some .cell
def Look (env : Env) (h : Heap) (m : Str → Option Value) (x : Str) (u : Value) : Prop :=
  (env.kindOf x = some .local ∧ m x = some u) ∨ ((env.kindOf x = some .cell ∨ env.kindOf x = some .free) ∧ ∃ c, env.cells.lookup x = some c ∧ h.IsCell c (some u))
structure Cx.Ok (X : Cx) : Prop where
  mod : Mod X.K X.mg X.base
  kind : X.env.scope.kind = .function
  glob : X.env.globals = mainGlobals
  blt : X.env.builtins = builtinsNs
  above : X.s₀.heap.objs.size ≤ X.env.locals
  inj : ∀ x y c, X.env.cells.lookup x = some c → X.env.cells.lookup y = some c → x = y
  has : ∀ x, (X.env.kindOf x = some .cell ∨ X.env.kindOf x = some .free) → ∃ c, X.env.cells.lookup x = some c
  cab : ∀ x c, X.fn x = true → X.env.cells.lookup x = some c → X.s₀.heap.objs.size ≤ c
  hd : X.calm = true → X.A.handled = none
  frames : X.A.frames = some X.stack
  stk : X.stack = X.outer ∨ (X.stack = X.env :: X.outer ∧ X.env.frame = some X.env.locals)
  exf : ∀ b ∈ X.ex, b ≠ X.env.locals ∧ ∀ x c, X.env.cells.lookup x = some c → c ≠ b
  bs : ∀ b o, X.base.get? b = some o → X.s₀.heap.get? b = some o ∧ X.H₀ b = none
  bsz : X.base.objs.size ≤ X.s₀.heap.objs.size
  noex : ∀ b o, X.base.get? b = some o → b ∉ X.ex
  exfs : ∀ b ∈ X.ex, b ∉ X.fs
  funs : X.s₀.heap.FunFrames X.base X.outer
  frf : ∀ b ∈ X.fs, X.H₀ b = none
structure Inv (X : Cx) (pins : List (Addr × Obj)) (σ : List (Option V)) (H : Hp) (s : Shared) : Prop where
  ok : X.Ok
  os : s.os = X.s₀.os
  bare : AllBare s.gens
  base : Un X.fs X.ex X.H₀ H X.s₀.heap s.heap
  loc : ∃ m, s.heap.Ns X.env.locals m ∧ ∀ (i : Nat) (x : Str) (v : V), X.N[i]? = some x → σ[i]? = some (some v) → Vis X.env.scope x → ∃ u, RelV v u ∧ Look X.env s.heap m x u
  cell : ∀ x c, X.env.cells.lookup x = some c → ∃ v, s.heap.IsCell c v
  free : H X.env.locals = none
  freeC : ∀ x c, X.env.cells.lookup x = some c → H c = none
  pin : ∀ p ∈ X.pn ++ pins, s.heap.get? p.1 = some p.2 ∧ H p.1 = none ∧ p.1 ≠ X.env.locals ∧ p.1 ∉ X.fs ∧ ∀ v, p.2.data ≠ .cell v
  hok : HOk X.prog X.w H s.heap
  len : σ.length = X.N.length
section
variable {X : Cx} {pins : List (Addr × Obj)} {σ : List (Option V)} {H H' : Hp} {s : Shared} {h' : Heap}
theorem Cx.Ok.nofr (ok : X.Ok) {b : Addr} {o : Obj} (e : X.base.get? b = some o) : b ∉ X.fs := fun hb => by
  have := (ok.funs.mem hb).1
  rw [e] at this; cases this
theorem Inv.bs (I : Inv X pins σ H s) : ∀ b o, X.base.get? b = some o → s.heap.get? b = some o ∧ H b = none := fun b o e =>
  ⟨I.base.keep b o (I.ok.bs b o e).1 (I.ok.bs b o e).2 (I.ok.nofr e) (I.ok.noex b o e), I.base.free b o (I.ok.bs b o e).1 (I.ok.bs b o e).2 (I.ok.noex b o e)⟩
theorem Inv.bk (I : Inv X pins σ H s) : ∀ b o, X.base.get? b = some o → s.heap.get? b = some o := fun b o e => (I.bs b o e).1
theorem Inv.mod (I : Inv X pins σ H s) : Mod X.K X.mg X.base := I.ok.mod
theorem Inv.kIn (I : Inv X pins σ H s) : X.K.In s.heap := I.ok.mod.kin.keeps I.bk
theorem Inv.lt (I : Inv X pins σ H s) : X.env.locals < s.heap.objs.size := let ⟨_, hn, _⟩ := I.loc; hn.lt
theorem Inv.sz (I : Inv X pins σ H s) : X.s₀.heap.objs.size ≤ s.heap.objs.size := Nat.le_trans I.ok.above (Nat.le_of_lt I.lt)
theorem Inv.nofs (I : Inv X pins σ H s) {a : Addr} (h : s.heap.objs.size ≤ a) : a ∉ X.fs := fun hb => by
  obtain ⟨_, o, ho, _⟩ := I.ok.funs.mem hb
  exact absurd (Nat.lt_of_lt_of_le (Heap.lt_size ho) (Nat.le_trans I.sz h)) (Nat.lt_irrefl _)
theorem Inv.cne (I : Inv X pins σ H s) : ∀ x c, X.env.cells.lookup x = some c → c ≠ X.env.locals := fun x c e z => by
  obtain ⟨v, o, ho, hd⟩ := I.cell x c e
  obtain ⟨m, ⟨o', es, ep, ho', hd', _⟩, _⟩ := I.loc
  rw [z, ho'] at ho; cases ho; rw [hd'] at hd; cases hd
theorem Inv.funs (I : Inv X pins σ H s) : s.heap.FunFrames X.base X.outer := by
  have all : ∀ (l : List Env), (∀ b ∈ frs l, b ∈ X.fs) → X.s₀.heap.FunFrames X.base l → s.heap.FunFrames X.base l := by
    intro l
    induction l with
    | nil => intro _ _; trivial
    | cons env r ih =>
      intro hs hl
      obtain ⟨hk, ⟨L, o, hf, hn, ho, hd⟩, hr⟩ := hl
      have hL : L ∈ X.fs := hs L (by unfold frs; rw [List.filterMap_cons, hf]; exact List.mem_cons_self)
      obtain ⟨sl, e⟩ := I.base.slot L o ho (I.ok.frf L hL) hL fun z => I.ok.exfs L z hL
      exact ⟨hk, ⟨L, _, hf, hn, e, hd⟩, ih (fun b hb => hs b (by unfold frs; rw [List.filterMap_cons, hf]; exact List.mem_cons_of_mem _ hb)) hr⟩
  exact all X.outer (fun _ hb => hb) I.ok.funs
theorem Inv.stack (I : Inv X pins σ H s) : s.heap.FunFrames X.base X.stack := by
  rcases I.ok.stk with e | ⟨e, hf⟩
  · rw [e]; exact I.funs
  · rw [e]
    obtain ⟨m, hn, _⟩ := I.loc
    refine .cons (by rw [I.ok.kind]; decide) hf hn ?_ I.funs
    exact Heap.get?_none_of_le (Nat.le_trans I.ok.bsz I.ok.above)
theorem Inv.stkSub (I : Inv X pins σ H s) : ∀ b ∈ frs X.stack, b ∈ X.env.locals :: X.fs := fun b hb => by
  rcases I.ok.stk with e | ⟨e, hf⟩
  · rw [e] at hb; exact List.mem_cons_of_mem _ hb
  · rw [e] at hb
    unfold frs at hb
    rw [List.filterMap_cons, hf] at hb
    exact hb
theorem Inv.stkFree (I : Inv X pins σ H s) : ∀ b ∈ frs X.stack, H b = none := fun b hb => by
  rcases List.mem_cons.mp (I.stkSub b hb) with e | hb
  · rw [e]; exact I.free
  · obtain ⟨_, o, ho, _⟩ := I.ok.funs.mem hb
    exact I.base.free b o ho (I.ok.frf b hb) fun z => I.ok.exfs b z hb
theorem Inv.step {g' : Array GenState} {t' : Nat} {d' : Drawn} {ch : List Addr} (I : Inv X pins σ H s)
    (hch : ∀ b ∈ ch, (b ∈ X.ex ∨ X.s₀.heap.objs.size ≤ b) ∧ b ≠ X.env.locals ∧ (∀ x c, X.env.cells.lookup x = some c → c ≠ b) ∧ ∀ p ∈ X.pn ++ pins, p.1 ≠ b)
    (keep : ∀ b o, b ≠ X.env.locals → b ∉ X.fs → b ∉ ch → s.heap.get? b = some o → H b = none → h'.get? b = some o)
    (slot : ∀ b o, b ≠ X.env.locals → b ∈ X.fs → b ∉ ch → s.heap.get? b = some o → H b = none → ∃ sl, h'.get? b = some { o with slots := sl }) (free : ∀ b o, b ∉ ch → s.heap.get? b = some o → H b = none → H' b = none)
    (there : ∀ b o, b ∉ ch → s.heap.get? b = some o → ∃ o', h'.get? b = some o')
    (tups : ∀ b xs, H b = some (.tup xs) → H' b = some (.tup xs)) (frzs : ∀ b o u, H b = some (.frz o u) → H' b = some (.frz o u)) (tbls : ∀ b ps, H b = some (.tbl ps) → ∃ more, H' b = some (.tbl (ps ++ more)))
    (ns : ∀ m, s.heap.Ns X.env.locals m → h'.Ns X.env.locals m) (hok : HOk X.prog X.w H' h') (hg : AllBare g') :
    Inv X pins σ H' { s with heap := h', gens := g', drawn := d', toks := t' } := by
  have neL : ∀ b o, X.s₀.heap.get? b = some o → b ≠ X.env.locals := fun b o e => Nat.ne_of_lt (Nat.lt_of_lt_of_le (Heap.lt_size e) I.ok.above)
  have neC : ∀ b o, X.s₀.heap.get? b = some o → b ∉ X.ex → b ∉ ch := fun b o e hx hb => by
    rcases (hch b hb).1 with z | z
    · exact hx z
    · exact absurd (Nat.lt_of_lt_of_le (Heap.lt_size e) z) (Nat.lt_irrefl _)
  have cellK : ∀ x c, X.env.cells.lookup x = some c → ∀ v, s.heap.IsCell c v → h'.IsCell c v := fun x c e v ⟨o, ho, hd⟩ => by
    have nch : c ∉ ch := fun z => (hch c z).2.2.1 x c e rfl
    by_cases hc : c ∈ X.fs
    · obtain ⟨sl, q⟩ := slot c o (I.cne x c e) hc nch ho (I.freeC x c e)
      exact ⟨_, q, hd⟩
    · exact ⟨o, keep c o (I.cne x c e) hc nch ho (I.freeC x c e), hd⟩
  refine ⟨I.ok, I.os, hg, ⟨fun b o e n hb hx => ?_, fun b o e n hb hx => ?_, fun b o e n hx => ?_, fun b o e hx => ?_, fun b xs e => tups b xs (I.base.tups b xs e), fun b o xs e => frzs b o xs (I.base.frzs b o xs e), fun b ps e => ?_⟩, ?_, fun x c e => ?_, ?_, fun x c e => ?_, fun p hp => ?_, hok, I.len⟩
  · exact keep b o (neL b o e) hb (neC b o e hx) (I.base.keep b o e n hb hx) (I.base.free b o e n hx)
  · obtain ⟨sl, e1⟩ := I.base.slot b o e n hb hx
    obtain ⟨sl', e2⟩ := slot b _ (neL b o e) hb (neC b o e hx) e1 (I.base.free b o e n hx)
    exact ⟨sl', e2⟩
  · obtain ⟨o', e1⟩ := I.base.there b o e hx
    exact free b o' (neC b o e hx) e1 (I.base.free b o e n hx)
  · obtain ⟨o', e1⟩ := I.base.there b o e hx
    exact there b o' (neC b o e hx) e1
  · obtain ⟨m1, e1⟩ := I.base.tbls b ps e
    obtain ⟨m2, e2⟩ := tbls b _ e1
    exact ⟨m1 ++ m2, by rw [e2, Array.append_assoc]⟩
  · obtain ⟨m, hn, hl⟩ := I.loc
    refine ⟨m, ns m hn, fun i x v e1 e2 e3 => ?_⟩
    obtain ⟨u, r, l⟩ := hl i x v e1 e2 e3
    refine ⟨u, r, ?_⟩
    rcases l with l | ⟨k, c, e, z⟩
    · exact .inl l
    · exact .inr ⟨k, c, e, cellK x c e _ z⟩
  · obtain ⟨v, z⟩ := I.cell x c e
    exact ⟨v, cellK x c e v z⟩
  · obtain ⟨m, ⟨o, _, _, ho, _⟩, _⟩ := I.loc
    exact free _ o (fun z => (hch _ z).2.1 rfl) ho I.free
  · obtain ⟨v, o, ho, hd⟩ := I.cell x c e
    exact free c o (fun z => (hch c z).2.2.1 x c e rfl) ho (I.freeC x c e)
  · obtain ⟨e, n, ne, nf, d⟩ := I.pin p hp
    have nch : p.1 ∉ ch := fun z => (hch p.1 z).2.2.2 p hp rfl
    exact ⟨keep p.1 p.2 ne nf nch e n, free p.1 p.2 nch e n, ne, nf, d⟩
theorem Inv.un {t' : Nat} (I : Inv X pins σ H s) (u : Un X.fs [] H H' s.heap h') (hok : HOk X.prog X.w H' h') : Inv X pins σ H' { s with heap := h', toks := t' } := by
  obtain ⟨m, ⟨o, es, ep, ho, r⟩, _⟩ := id I.loc
  obtain ⟨sl, hL⟩ := u.any ho I.free (by simp)
  exact I.step (g' := s.gens) (d' := s.drawn) (ch := []) (fun _ z => nomatch z) (fun b o _ hb _ e n => u.keep b o e n hb (by simp)) (fun b o _ hb _ e n => u.slot b o e n hb (by simp)) (fun b o _ e n => u.free b o e n (by simp)) (fun b o _ e => u.there b o e (by simp)) u.tups u.frzs u.tbls (fun m' hm => by
    obtain ⟨o', es', ep', ho', r'⟩ := hm
    rw [ho] at ho'; cases ho'
    exact ⟨_, es', ep', hL, r'⟩) hok I.bare
theorem Inv.call {g' : Array GenState} {t' : Nat} {d' : Drawn} {ch : List Addr} (I : Inv X pins σ H s) (u : Un (frs X.stack) ch H H' s.heap h') (hok : HOk X.prog X.w H' h') (hg : AllBare g')
    (hch : ∀ b ∈ ch, (b ∈ X.ex ∨ X.s₀.heap.objs.size ≤ b) ∧ b ≠ X.env.locals ∧ (∀ x c, X.env.cells.lookup x = some c → c ≠ b) ∧ ∀ p ∈ X.pn ++ pins, p.1 ≠ b) :
    Inv X pins σ H' { s with heap := h', gens := g', drawn := d', toks := t' } := by
  obtain ⟨m, ⟨o, es, ep, ho, r⟩, _⟩ := id I.loc
  obtain ⟨sl, hL⟩ := u.any ho I.free fun z => (hch _ z).2.1 rfl
  exact I.step (ch := ch) hch (fun b o hL hb hc e n => u.keep b o e n (fun z => (List.mem_cons.mp (I.stkSub b z)).elim hL hb) hc) (fun b o _ _ hc e n => u.any e n hc) (fun b o hc e n => u.free b o e n hc) (fun b o hc e => u.there b o e hc) u.tups u.frzs u.tbls (fun m' hm => by
    obtain ⟨o', es', ep', ho', r'⟩ := hm
    rw [ho] at ho'; cases ho'
    exact ⟨_, es', ep', hL, r'⟩) hok hg
theorem Inv.turned {t' : Nat} {it : Addr} (I : Inv X pins σ H s) (k : ∀ b o, b ≠ it → s.heap.get? b = some o → h'.get? b = some o) (hn : H it = none) (hL : it ≠ X.env.locals)
    (h1 : it ∈ X.ex ∨ X.s₀.heap.objs.size ≤ it) (h2 : ∀ x c, X.env.cells.lookup x = some c → c ≠ it) (h3 : ∀ p ∈ X.pn ++ pins, p.1 ≠ it) : Inv X pins σ H { s with heap := h', toks := t' } := by
  have nit : ∀ b u, H b = some u → b ≠ it := fun b u e z => by rw [z, hn] at e; cases e
  refine I.step (g' := s.gens) (d' := s.drawn) (ch := [it]) (fun b hb => ?_) (fun b o _ _ hc e _ => k b o (fun z => hc (by simp [z])) e) (fun b o _ _ hc e _ => ⟨o.slots, k b o (fun z => hc (by simp [z])) e⟩) (fun _ _ _ _ n => n)
    (fun b o hc e => ⟨o, k b o (fun z => hc (by simp [z])) e⟩) (fun _ _ e => e) (fun _ _ _ e => e) (fun b ps e => ⟨#[], by rw [e]; simp⟩) (fun m hm => ?_) (fun b u e => ?_) I.bare
  · have e : b = it := by simpa using hb
    subst e
    exact ⟨h1, hL, h2, h3⟩
  · obtain ⟨o, es, ep, ho, r⟩ := hm
    exact ⟨o, es, ep, k _ o (Ne.symm hL) ho, r⟩
  · refine (I.hok b u e).stay (fun c v hc q => k c v ?_ q) (fun _ q => q) fun _ _ q => q
    rcases hc with z | z
    · rw [z]; exact nit b u e
    · exact nit c _ z
theorem Inv.tok (I : Inv X pins σ H s) (t : Nat) : Inv X pins σ H { s with toks := t } := I.un (h' := s.heap) (t' := t) Un.refl I.hok
theorem Inv.kept {t' : Nat} (I : Inv X pins σ H s) (k : ∀ b u, s.heap.get? b = some u → h'.get? b = some u) : Inv X pins σ H { s with heap := h', toks := t' } := I.un (Un.kept k) (I.hok.kept k)
theorem Inv.laid {a : Addr} {o : HO} {t' : Nat} (I : Inv X pins σ H s) (k : ∀ b u, s.heap.get? b = some u → h'.get? b = some u) (hp : s.heap.objs.size ≤ a) (new : ObjOk X.prog X.w (upd H a o) h' a o) :
    Inv X pins σ (upd H a o) { s with heap := h', toks := t' } := I.un (Un.laid k hp (I.hok.fresh hp)) (I.hok.laid k hp new)
theorem Inv.write {x e : Addr} {o : HO} {t' : Nat} (I : Inv X pins σ H s) (mu : Mut (H x)) (he : e = x ∨ H e = some (.own x)) (k : ∀ b u, b ≠ e → s.heap.get? b = some u → h'.get? b = some u) (heo : ∃ u, h'.get? e = some u)
    (new : ObjOk X.prog X.w (upd H x o) h' x o) : Inv X pins σ (upd H x o) { s with heap := h', toks := t' } := I.un (Un.write mu he k heo) (I.hok.write mu he k heo new)
theorem Inv.weak {σ' : List (Option V)} (I : Inv X pins σ H s) (hl : σ'.length = σ.length) (w : ∀ (i : Nat) v, σ'[i]? = some (some v) → σ[i]? = some (some v)) : Inv X pins σ' H s :=
  ⟨I.ok, I.os, I.bare, I.base, let ⟨m, hn, hl'⟩ := I.loc; ⟨m, hn, fun i x v e1 e2 e3 => hl' i x v e1 (w i v e2) e3⟩, I.cell, I.free, I.freeC, I.pin, I.hok, hl.trans I.len⟩
theorem Inv.pins_of {pins' : List (Addr × Obj)} (I : Inv X pins σ H s) (h : ∀ p ∈ pins', s.heap.get? p.1 = some p.2 ∧ H p.1 = none ∧ p.1 ≠ X.env.locals ∧ p.1 ∉ X.fs ∧ ∀ v, p.2.data ≠ .cell v) : Inv X pins' σ H s :=
  ⟨I.ok, I.os, I.bare, I.base, I.loc, I.cell, I.free, I.freeC, fun p hp => (List.mem_append.mp hp).elim (fun z => I.pin p (List.mem_append_left _ z)) (h p), I.hok, I.len⟩
theorem nodup_ix {N : List Str} (hN : N.Nodup) {i j : Nat} {x : Str} (a : N[i]? = some x) (b : N[j]? = some x) : i = j := by
  obtain ⟨h1, e1⟩ := List.getElem?_eq_some_iff.mp a
  obtain ⟨h2, e2⟩ := List.getElem?_eq_some_iff.mp b
  exact (List.getElem_inj hN).mp (e1.trans e2.symm)
theorem store_ok2 {M : Model} {A : Around} {E : Value → Shared → Prop} {i : Nat} {x : Str} {v : V} {u : Value} {Q : Unit → Shared → Prop} (I : Inv X pins σ H s) (hN : X.N.Nodup) (hi : X.N[i]? = some x) (hx : Loc X.env.scope x) (r : RelV v u)
    (h : ∀ s', Inv X pins (σ.set i (some v)) H s' → (∃ a, Heap.SameBut a s.heap s'.heap ∧ (a = X.env.locals ∨ X.env.cells.lookup x = some a)) → Q () s') (hf : X.fn x = true ∨ X.env.scope.names.lookup x = some .local := by first | exact .inl rfl | exact .inr rfl | assumption) : wpAny M A (storeName X.env x u) Q E s := by
  obtain ⟨m, hn, hl⟩ := id I.loc
  have hcls : (X.env.scope.kind == .class || (X.env.scope.kind == .module && X.env.locals != X.env.globals)) = false := by rw [I.ok.kind]; rfl
  have hiσ : i < σ.length := by rw [I.len]; exact (List.getElem?_eq_some_iff.mp hi).1
  have cne := I.cne
  have tracked : ∀ {a : Addr} {h' : Heap}, (∃ o, s.heap.get? a = some o ∧ H a = none) → Heap.SameBut a s.heap h' → HOk X.prog X.w H h' := fun {a h'} ha hs b ob e => by
    obtain ⟨_, _, hfree⟩ := ha
    refine (I.hok b ob e).stay (fun c w' hc q => (hs.2 c ?_).trans q) (fun _ q => q) fun _ _ q => q
    rintro rfl
    rcases hc with rfl | hc
    · rw [hfree] at e; cases e
    · rw [hfree] at hc; cases hc
  rcases hx with hk | hk
  · refine wpAny_storeName_local hk hn (fun h' hn' hs => ?_) hcls
    obtain ⟨oL, _, _, hoL, _⟩ := id hn
    refine h _ ⟨I.ok, I.os, I.bare, ⟨fun b o e n hb hx => ?_, fun b o e n hb hx => ?_, I.base.free, fun b o e hx => ?_, I.base.tups, I.base.frzs, I.base.tbls⟩, ⟨_, hn', fun j y v' e1 e2 e3 => ?_⟩, fun y c e => ?_, I.free, I.freeC, fun p hp => ?_, tracked ⟨oL, hoL, I.free⟩ hs, by simpa using I.len⟩ ⟨_, hs, .inl rfl⟩
    · exact (hs.2 b (Nat.ne_of_lt (Nat.lt_of_lt_of_le (Heap.lt_size e) I.ok.above))).trans (I.base.keep b o e n hb hx)
    · obtain ⟨sl, e1⟩ := I.base.slot b o e n hb hx
      exact ⟨sl, (hs.2 b (Nat.ne_of_lt (Nat.lt_of_lt_of_le (Heap.lt_size e) I.ok.above))).trans e1⟩
    · obtain ⟨o', e1⟩ := I.base.there b o e hx
      exact ⟨o', (hs.2 b (Nat.ne_of_lt (Nat.lt_of_lt_of_le (Heap.lt_size e) I.ok.above))).trans e1⟩
    · by_cases hj : j = i
      · subst hj
        rw [hi] at e1; cases e1
        rw [List.getElem?_set_self hiσ] at e2
        cases e2
        exact ⟨u, r, .inl ⟨hk, by simp⟩⟩
      · rw [List.getElem?_set_ne (Ne.symm hj)] at e2
        obtain ⟨u', r', q⟩ := hl j y v' e1 e2 e3
        refine ⟨u', r', ?_⟩
        rcases q with ⟨k, e⟩ | ⟨k, c, e, z⟩
        · refine .inl ⟨k, ?_⟩
          have : y ≠ x := fun e => hj (nodup_ix hN e1 (e ▸ hi))
          simp [this, e]
        · exact .inr ⟨k, c, e, z.sameBut hs (cne y c e)⟩
    · obtain ⟨w', z⟩ := I.cell y c e
      exact ⟨w', z.sameBut hs (cne y c e)⟩
    · obtain ⟨e, n, ne, nf, d⟩ := I.pin p hp
      exact ⟨(hs.2 p.1 ne).trans e, n, ne, nf, d⟩
  · have hfn : X.fn x = true := by
      rcases hf with z | z
      · exact z
      · rw [z] at hk; cases hk
    obtain ⟨c, hc⟩ := I.ok.has x (.inl hk)
    obtain ⟨w', z⟩ := I.cell x c hc
    refine wpAny_storeName_cell I.ok.kind hk hc z (fun h' hc' hs => ?_)
    obtain ⟨oc, hoc, hocd⟩ := id z
    refine h { s with heap := h' } ⟨I.ok, I.os, I.bare, ⟨fun b o e n hb hx => ?_, fun b o e n hb hx => ?_, I.base.free, fun b o e hx => ?_, I.base.tups, I.base.frzs, I.base.tbls⟩, ⟨m, hn.sameBut hs (Ne.symm (cne x c hc)), fun j y v' e1 e2 e3 => ?_⟩, fun y c' e => ?_, I.free, I.freeC, fun p hp => ?_, tracked ⟨oc, hoc, I.freeC x c hc⟩ hs, by simpa using I.len⟩ ⟨c, hs, .inr hc⟩
    · exact (hs.2 b (Nat.ne_of_lt (Nat.lt_of_lt_of_le (Heap.lt_size e) (I.ok.cab x c hfn hc)))).trans (I.base.keep b o e n hb hx)
    · obtain ⟨sl, e1⟩ := I.base.slot b o e n hb hx
      exact ⟨sl, (hs.2 b (Nat.ne_of_lt (Nat.lt_of_lt_of_le (Heap.lt_size e) (I.ok.cab x c hfn hc)))).trans e1⟩
    · obtain ⟨o', e1⟩ := I.base.there b o e hx
      exact ⟨o', (hs.2 b (Nat.ne_of_lt (Nat.lt_of_lt_of_le (Heap.lt_size e) (I.ok.cab x c hfn hc)))).trans e1⟩
    · by_cases hj : j = i
      · subst hj
        rw [hi] at e1; cases e1
        rw [List.getElem?_set_self hiσ] at e2
        cases e2
        exact ⟨u, r, .inr ⟨.inl hk, c, hc, hc'⟩⟩
      · rw [List.getElem?_set_ne (Ne.symm hj)] at e2
        obtain ⟨u', r', q⟩ := hl j y v' e1 e2 e3
        refine ⟨u', r', ?_⟩
        rcases q with q | ⟨k, c', e, z'⟩
        · exact .inl q
        · refine .inr ⟨k, c', e, z'.sameBut hs ?_⟩
          rintro rfl
          exact hj (nodup_ix hN e1 (I.ok.inj _ _ _ e hc ▸ hi))
    · by_cases hcc : c' = c
      · subst hcc; exact ⟨_, hc'⟩
      · obtain ⟨w2, z2⟩ := I.cell y c' e
        exact ⟨w2, z2.sameBut hs hcc⟩
    · obtain ⟨e, n, ne, nf, d⟩ := I.pin p hp
      refine ⟨(hs.2 p.1 ?_).trans e, n, ne, nf, d⟩
      intro q
      rw [q, hoc] at e
      have q' : oc = p.2 := Option.some.inj e
      exact d w' (by rw [← q']; exact hocd)
theorem store_ok {M : Model} {A : Around} {E : Value → Shared → Prop} {i : Nat} {x : Str} {v : V} {u : Value} {Q : Unit → Shared → Prop} (I : Inv X pins σ H s) (hN : X.N.Nodup) (hi : X.N[i]? = some x) (hx : Loc X.env.scope x) (r : RelV v u)
    (h : ∀ s', Inv X pins (σ.set i (some v)) H s' → Q () s') (hf : X.fn x = true ∨ X.env.scope.names.lookup x = some .local := by first | exact .inl rfl | exact .inr rfl | assumption) : wpAny M A (storeName X.env x u) Q E s :=
  store_ok2 I hN hi hx r (fun s' I' _ => h s' I') hf
theorem Inv.call' {s' : Shared} {ch : List Addr} (I : Inv X pins σ H s) (ho : s'.os = s.os) (u : Un (frs X.stack) ch H H' s.heap s'.heap) (hok : HOk X.prog X.w H' s'.heap) (hg : AllBare s'.gens)
    (hch : ∀ b ∈ ch, (b ∈ X.ex ∨ X.s₀.heap.objs.size ≤ b) ∧ b ≠ X.env.locals ∧ (∀ x c, X.env.cells.lookup x = some c → c ≠ b) ∧ ∀ p ∈ X.pn ++ pins, p.1 ≠ b) : Inv X pins σ H' s' := by
  obtain ⟨h', g', d', t', o'⟩ := s'
  have e : o' = s.os := ho
  subst e
  exact I.call (g' := g') (t' := t') (d' := d') u hok hg hch
end
abbrev XK := Value → Option Addr → Hp → Prop
abbrev St := List (Option V)
abbrev VK := V → Hp → Prop
abbrev TE := St → Hp → VK → Prop
abbrev TT := St → Hp → (Bool → Hp → Prop) → Prop
abbrev TA := St → Hp → (List V → Hp → Prop) → Prop
structure Ends where
  nx : St → Hp → Prop
  rt : VK
  bk : St → Hp → Prop := fun _ _ => False
  ct : St → Hp → Prop := fun _ _ => False
abbrev TS := Ends → St → Hp → Prop
def EP (X : Cx) (pins : List (Addr × Obj)) (σ : St) (Q : VK) (u : Value) (s' : Shared) : Prop := ∃ v H', Inv X pins σ H' s' ∧ RelV v u ∧ Q v H'
def TP (X : Cx) (pins : List (Addr × Obj)) (σ : St) (Q : Bool → Hp → Prop) (b : Bool) (s' : Shared) : Prop := ∃ H', Inv X pins σ H' s' ∧ Q b H'
def AP (X : Cx) (pins : List (Addr × Obj)) (σ : St) (Q : List V → Hp → Prop) (us : List Value) (s' : Shared) : Prop := ∃ vs H', Inv X pins σ H' s' ∧ Vals vs us ∧ Q vs H'
def SP (X : Cx) (pins : List (Addr × Obj)) (D : Ends) (f : Flow) (s' : Shared) : Prop :=
  match f with
  | .next => ∃ σ' H', Inv X pins σ' H' s' ∧ D.nx σ' H'
  | .brk => ∃ σ' H', Inv X pins σ' H' s' ∧ D.bk σ' H'
  | .cont => ∃ σ' H', Inv X pins σ' H' s' ∧ D.ct σ' H'
  | .ret u => ∃ v σ' H', Inv X pins σ' H' s' ∧ RelV v u ∧ D.rt v H'
def PE (X : Cx) (e : Expr) (t : TE) : Prop :=
  ∀ (pins : List (Addr × Obj)) (s : Shared) (σ : St) (H : Hp) (Q : VK), Inv X pins σ H s → t σ H Q → wpAny (model X.prog X.w) X.A (eval e X.env) (EP X pins σ Q) X.xe s
def PT (X : Cx) (e : Expr) (t : TT) : Prop :=
  ∀ (pins : List (Addr × Obj)) (s : Shared) (σ : St) (H : Hp) (Q : Bool → Hp → Prop), Inv X pins σ H s → t σ H Q → wpAny (model X.prog X.w) X.A (isTrue e X.env (eval e X.env)) (TP X pins σ Q) X.xe s
def PW (X : Cx) (e : Expr) (t : TT) : Prop :=
  ∀ (whole : Sem Value) (pins : List (Addr × Obj)) (s : Shared) (σ : St) (H : Hp) (Q : Bool → Hp → Prop), Inv X pins σ H s → t σ H Q → wpAny (model X.prog X.w) X.A (isTrue e X.env whole) (TP X pins σ Q) X.xe s
theorem PW.pt {X : Cx} {e : Expr} {t : TT} (h : PW X e t) : PT X e t := h _
def PA (X : Cx) (es : List Expr) (t : TA) : Prop :=
  ∀ (pos : Pos) (pins : List (Addr × Obj)) (s : Shared) (σ : St) (H : Hp) (Q : List V → Hp → Prop), Inv X pins σ H s → t σ H Q → wpAny (model X.prog X.w) X.A (spliced (backTo pos (starEach es X.env))) (AP X pins σ Q) X.xe s
def PS (X : Cx) (st : Stmt) (t : TS) : Prop :=
  ∀ (pins : List (Addr × Obj)) (s : Shared) (σ : St) (H : Hp) (D : Ends), Inv X pins σ H s → t D σ H → wpAny (model X.prog X.w) X.A (exec st X.env) (SP X pins D) X.xe s
def PSs (X : Cx) (st : List Stmt) (t : TS) : Prop :=
  ∀ (pins : List (Addr × Obj)) (s : Shared) (σ : St) (H : Hp) (D : Ends), Inv X pins σ H s → t D σ H → wpAny (model X.prog X.w) X.A (execs st X.env) (SP X pins D) X.xe s
theorem thn {α : Type} {t : Sem α} {Q Q' : α → Shared → Prop} {M : Model} {A : Around} {E : Value → Shared → Prop} {s : Shared} (h : wpAny M A t Q E s) (hQ : ∀ a s, Q a s → Q' a s) : wpAny M A t Q' E s := wpAny_mono h hQ fun _ _ x => x
end L2
namespace L2
open PySem PySem.Spec PyProof.Rows
section
variable {X : Cx}
def tVar (i : Nat) : TE := fun σ H Q => ∃ v, σ[i]? = some (some v) ∧ Q v H
def tC (v : V) : TE := fun _ H Q => Q v H
theorem pe_var {i : Nat} {x : Str} {pos : Pos} (hN : X.N[i]? = some x) (hv : Vis X.env.scope x) (hd : (x == ("__debug__" : Str)) = false := by decide) (hcd : (x == ("__classdict__" : Str)) = false := by decide) : PE X (.Name x pos) (tVar i) := by
  intro pins s σ H Q I h
  obtain ⟨v, e, h⟩ := h
  obtain ⟨m, hn, hl⟩ := I.loc
  obtain ⟨u, r, l⟩ := hl i x v hN e hv
  have fin : EP X pins σ Q u s := ⟨v, H, I, r, h⟩
  rcases l with ⟨hk, hm⟩ | ⟨hk, c, hc, hcell⟩
  · exact wpAny_Name (wpAny_loadName_local I.ok.kind hk hn hm fin) hd
  · rcases hk with hk | hk
    · exact wpAny_Name (wpAny_loadName_cell I.ok.kind hk hc hcell fin) hd
    · exact wpAny_Name (wpAny_loadName_free I.ok.kind hk hc hcell fin hcd) hd
theorem pe_int {i j pos} : PE X (.Constant (.int i) j pos) (tC (.int i)) := fun _ _ _ H _ I h => wpAny_Constant_int ⟨.int i, H, I.tok _, ⟨_, rfl⟩, h⟩
theorem pe_bl {b j pos} : PE X (.Constant (.bool b) j pos) (tC (.bl b)) := fun _ _ _ H _ I h => Constant_bool ⟨.bl b, H, I, rfl, h⟩
theorem pe_non {j pos} : PE X (.Constant .none j pos) (tC .non) := fun _ _ _ H _ I h => Constant_none ⟨.non, H, I, rfl, h⟩
theorem pe_str {x j pos} : PE X (.Constant (.str x) j pos) (tC (.str x)) := fun _ _ _ H _ I h => Calls.Constant_str ⟨.str x, H, I.tok _, ⟨_, rfl⟩, h⟩
def Gl (X : Cx) (x : Str) : Prop := X.env.kindOf x = some .globalImplicit
theorem ld_glob {E : Value → Shared → Prop} {pins : List (Addr × Obj)} {s : Shared} {σ : St} {H : Hp} {x : Str} {u : Value} {pos : Pos} {Q : Value → Shared → Prop} (I : Inv X pins σ H s) (hg : Gl X x) (hm : X.mg x = some u) (h : Q u s)
    (hd : (x == ("__debug__" : Str)) = false := by decide) : wpAny (model X.prog X.w) X.A (eval (.Name x pos) X.env) Q E s :=
  Calls.Name_function_global I.ok.kind hg (Calls.loadGlobal_global (by rw [I.ok.glob]; exact I.mod.glob.keeps I.bk) hm h) hd
theorem ld_blt {E : Value → Shared → Prop} {pins : List (Addr × Obj)} {s : Shared} {σ : St} {H : Hp} {x : Str} {u : Value} {pos : Pos} {Q : Value → Shared → Prop} (I : Inv X pins σ H s) (hg : Gl X x) (hm : X.mg x = none) (hv : bootBuiltins x = some u) (h : Q u s)
    (hn : x ≠ "__name__" := by decide) (hd : (x == ("__debug__" : Str)) = false := by decide) : wpAny (model X.prog X.w) X.A (eval (.Name x pos) X.env) Q E s := by
  obtain ⟨mb, h1, h2⟩ := I.mod.blt
  exact Calls.Name_function_global I.ok.kind hg (Calls.loadGlobal_builtin (by rw [I.ok.glob]; exact I.mod.glob.keeps I.bk) hm (by rw [I.ok.blt]; exact h1.keeps I.bk) ((h2 x hn).trans hv) h) hd
theorem pe_glob {x : Str} {v : V} {u : Value} {pos : Pos} (hg : Gl X x) (hm : X.mg x = some u) (r : RelV v u) (hd : (x == ("__debug__" : Str)) = false := by decide) : PE X (.Name x pos) (tC v) :=
  fun _ _ _ H _ I h => ld_glob I hg hm ⟨v, H, I, r, h⟩ hd
theorem pe_bltn {x : Str} {v : V} {u : Value} {pos : Pos} (hg : Gl X x) (hm : X.mg x = none) (hv : bootBuiltins x = some u) (r : RelV v u) (hn : x ≠ "__name__" := by decide) (hd : (x == ("__debug__" : Str)) = false := by decide) : PE X (.Name x pos) (tC v) :=
  fun _ _ _ H _ I h => ld_blt I hg hm hv ⟨v, H, I, r, h⟩ hn hd
variable {a b : Expr} {ta tb : TE} {pos : Pos}
def PC (X : Cx) (op : CmpOp) (a b : Expr) (t : TE) : Prop :=
  ∀ (pins : List (Addr × Obj)) (s : Shared) (σ : St) (H : Hp) (Q : VK), Inv X pins σ H s → t σ H Q →
    wpAny (model X.prog X.w) X.A (eval a X.env) (fun v s₁ => wpAny (model X.prog X.w) X.A (eval b X.env) (fun u s₂ => wpAny (model X.prog X.w) X.A (compareOp op v u) (EP X pins σ Q) X.xe s₂) X.xe s₁) X.xe s
theorem nobehind (b : Expr) {op : CmpOp} (h : op ≠ .In) (h2 : op ≠ .NotIn) : behindInMarks op b = false := by
  have e1 : (op == CmpOp.In) = false := by cases op <;> first | rfl | exact absurd rfl h
  have e2 : (op == CmpOp.NotIn) = false := by cases op <;> first | rfl | exact absurd rfl h2
  cases b <;> simp [behindInMarks, e1, e2]
def tIsN (ta : TE) : TE := fun σ H Q => ta σ H fun x H1 => Q (.bl (decide (x = .non))) H1
theorem RelV.none_iff {x : V} {v : Value} (r : RelV x v) : (v == Value.none) = decide (x = .non) := by
  cases x with
  | non => cases r; rfl
  | bl _ => cases r; rfl
  | int _ => obtain ⟨t, rfl⟩ := r; rfl
  | str _ => obtain ⟨t, rfl⟩ := r; rfl
  | byt _ => obtain ⟨t, rfl⟩ := r; rfl
  | flt _ => obtain ⟨t, rfl⟩ := r; rfl
  | ref _ => cases r; rfl
  | ty _ => cases r; rfl
theorem pc_isN {j pos'} (ha : PE X a ta) : PC X .Is a (.Constant .none j pos') (tIsN ta) := by
  intro pins s σ H Q I h
  refine thn (ha pins s σ H _ I h) fun v s1 hm0 => ?_
  obtain ⟨x, H1, I1, r1, q1⟩ := hm0
  exact Constant_none (is_none_gen ⟨.bl _, H1, I1, by rw [r1.none_iff]; rfl, q1⟩)
def tB (t : TE) : TT := fun σ H Q => t σ H fun x H1 => ∃ c, x = .bl c ∧ Q c H1
theorem pe_cmp {op : CmpOp} {t : TE} (h : PC X op a b t) (h1 : behindInMarks op b = false := by first | exact nobehind _ (by decide) (by decide) | rfl) : PE X (.Compare a [op] [b] pos) t := fun pins s σ H Q I hw => wpAny_Compare1 (h pins s σ H Q I hw) h1
theorem pt_cmp {op : CmpOp} {t : TE} (h : PC X op a b t) (h1 : behindInMarks op b = false := by first | exact nobehind _ (by decide) (by decide) | rfl) : PT X (.Compare a [op] [b] pos) (tB t) := by
  intro pins s σ H Q I hw
  refine wpAny_isTrue_Compare1 (thn (h pins s σ H _ I hw) fun v s1 h1 => thn h1 fun u s2 h2 => thn h2 fun c s3 hm0 => ?_) h1
  obtain ⟨x, H1, I1, r1, q1⟩ := hm0
  obtain ⟨d, rfl, q⟩ := q1
  cases r1
  exact wpAny_truthy_bool ⟨H1, I1, q⟩
theorem pt_val {e : Expr} {t : TE} (h : PE X e t) (he : ∀ whole, isTrue e X.env whole = (do let v ← whole; standAt e.pos; holding [v] (truthy v)) := by intro _; rfl) : PT X e (tB t) := by
  intro pins s σ H Q I hw
  refine isTrue_plain (thn (h pins s σ H _ I hw) fun v s1 hm0 => ?_) (he _)
  obtain ⟨x, H1, I1, r1, q1⟩ := hm0
  obtain ⟨d, rfl, q⟩ := q1
  cases r1
  exact wpAny_truthy_bool ⟨H1, I1, q⟩
variable {tA tB' : TT} {rest : List Expr}
def tOr (t u : TT) : TT := fun σ H Q => t σ H fun c H1 => if c = true then Q true H1 else u σ H1 Q
def tNot (t : TT) : TT := fun σ H Q => t σ H fun c H1 => Q (!c) H1
theorem pw_or1 (ha : PT X a tA) : PW X (.BoolOp .Or [a] pos) tA := by
  intro wh pins s σ H Q I h
  refine isTrue_or (thn (ha pins s σ H Q I h) fun c s1 e => ?_)
  cases c with
  | false => exact isTrue_or_nil e
  | true => exact e
theorem pw_or (ha : PT X a tA) (hb : PW X (.BoolOp .Or (b :: rest) pos) tB') : PW X (.BoolOp .Or (a :: b :: rest) pos) (tOr tA tB') := by
  intro wh pins s σ H Q I h
  refine isTrue_or (thn (ha pins s σ H _ I h) fun c s1 hm0 => ?_)
  obtain ⟨H1, I1, q1⟩ := hm0
  cases c with
  | true => exact ⟨H1, I1, q1⟩
  | false => exact hb wh pins s1 σ H1 Q I1 q1
theorem pt_not (ha : PT X a tA) : PT X (.UnaryOp .Not a pos) (tNot tA) := by
  intro pins s σ H Q I h
  exact isTrue_not (ha pins s σ H (fun c H1 => Q (!c) H1) I h)
def tAndV (ta tb : TE) : TE := fun σ H Q => ta σ H fun x H1 => ∃ c, x = .bl c ∧ if c = true then tb σ H1 Q else Q (.bl false) H1
def tNotV (ta : TE) : TE := fun σ H Q => ta σ H fun x H1 => ∃ c, x = .bl c ∧ Q (.bl (!c)) H1
theorem pe_one {op} {t : TE} (h : PE X a t) : PE X (.BoolOp op [a] pos) t := fun pins s σ H Q I hw => BoolOp_one (h pins s σ H Q I hw)
theorem pe_and (ha : PE X a ta) (hb : PE X (.BoolOp .And (b :: rest) pos) tb) : PE X (.BoolOp .And (a :: b :: rest) pos) (tAndV ta tb) := by
  intro pins s σ H Q I h
  refine BoolOp_and (thn (ha pins s σ H _ I h) fun v s1 hm0 => ?_)
  obtain ⟨x, H1, I1, r1, q1⟩ := hm0
  obtain ⟨c, rfl, q1⟩ := q1
  cases r1
  refine wpAny_truthy_bool ?_
  cases c with
  | true => exact hb pins s1 σ H1 Q I1 q1
  | false => exact ⟨.bl false, H1, I1, rfl, q1⟩
theorem pe_not (ha : PE X a ta) : PE X (.UnaryOp .Not a pos) (tNotV ta) := by
  intro pins s σ H Q I h
  refine UnaryOp_ (thn (ha pins s σ H _ I h) fun v s1 hm0 => ?_)
  obtain ⟨x, H1, I1, r1, q1⟩ := hm0
  obtain ⟨c, rfl, q1⟩ := q1
  cases r1
  exact not_of (wpAny_truthy_bool ⟨.bl (!c), H1, I1, rfl, q1⟩)
end
end L2
namespace L2
open PySem PySem.Spec PyProof.Rows
def SqL (K : PySem.W.Frag) (H : Hp) (a : Addr) (xs : List V) : Prop :=
  Rd H a (.lst xs) ∨
    ∃ (o : Obj) (its : Array Value) (n : Nat), K.lookup a = some o ∧ o.cls = .type "list" ∧ o.dict = none ∧ o.data = .seq its n ∧ its.size ≤ sizeLine ∧ Vals xs its.toList
def SqT (K : PySem.W.Frag) (H : Hp) (a : Addr) (xs : List V) : Prop :=
  Rd H a (.tup xs) ∨
    ∃ (o : Obj) (its : Array Value) (n : Nat), K.lookup a = some o ∧ o.cls = .type "tuple" ∧ o.data = .seq its n ∧ its.size ≤ sizeLine ∧ Vals xs its.toList
def absV : Value → Option V
  | .none => some .non
  | .bool b => some (.bl b)
  | .int i _ => some (.int i)
  | .str x _ => some (.str x)
  | .bytes b _ => some (.byt b)
  | .float b _ => some (.flt b)
  | .ref a => some (.ref a)
  | .type n => some (.ty n)
  | _ => none
theorem RelV.abs {x : V} {u : Value} (r : RelV x u) : absV u = some x := by
  cases x with
  | non => cases r; rfl
  | bl _ => cases r; rfl
  | int _ => obtain ⟨t, rfl⟩ := r; rfl
  | str _ => obtain ⟨t, rfl⟩ := r; rfl
  | byt _ => obtain ⟨t, rfl⟩ := r; rfl
  | flt _ => obtain ⟨t, rfl⟩ := r; rfl
  | ref _ => cases r; rfl
  | ty _ => cases r; rfl
theorem RelV.inj {x y : V} {u : Value} (r : RelV x u) (q : RelV y u) : x = y := Option.some.inj (r.abs.symm.trans q.abs)
theorem Vals.inj : ∀ {xs ys : List V} {us : List Value}, Vals xs us → Vals ys us → xs = ys
  | _, _, _, .nil, .nil => rfl
  | _, _, _, .cons r t, .cons r' t' => by rw [r.inj r', Vals.inj t t']
section
variable {X : Cx} {pins : List (Addr × Obj)} {σ : St} {H : Hp} {s : Shared} {a : Addr} {xs ys : List V}
theorem SqL.of {K : PySem.W.Frag} (h : H a = some (.lst xs)) : SqL K H a xs := .inl (.inl h)
theorem SqT.of {K : PySem.W.Frag} (h : H a = some (.tup xs)) : SqT K H a xs := .inl (.inl h)
theorem Inv.list (I : Inv X pins σ H s) (h : SqL X.K H a xs) : ∃ its : List Value, Vals xs its ∧ PlainL s.heap a its.toArray ∧ xs.length ≤ sizeLine := by
  rcases h with h | ⟨o, its, n, hk, hc, hd, hs, hz, r⟩
  · obtain ⟨z, its, n, r, e⟩ := h.ok I.hok
    exact ⟨its, r, ⟨_, n, e, rfl, rfl, rfl⟩, z⟩
  · refine ⟨its.toList, r, ⟨o, n, I.kIn a o hk, hc, hd, by simpa using hs⟩, ?_⟩
    have e := r.length
    simp only [Array.length_toList] at e
    omega
theorem Inv.tuple (I : Inv X pins σ H s) (h : SqT X.K H a xs) : ∃ its : List Value, Vals xs its ∧ IsTup s.heap a its.toArray ∧ xs.length ≤ sizeLine := by
  rcases h with h | ⟨o, its, n, hk, hc, hs, hz, r⟩
  · obtain ⟨z, its, r, p⟩ := h.ok I.hok
    exact ⟨its, r, p, z⟩
  · refine ⟨its.toList, r, ⟨o, I.kIn a o hk, hc, n, by simpa using hs⟩, ?_⟩
    have e := r.length
    simp only [Array.length_toList] at e
    omega
theorem Inv.list_inj (I : Inv X pins σ H s) (h : SqL X.K H a xs) (h' : SqL X.K H a ys) : xs = ys := by
  obtain ⟨its, r, ⟨o, n, e, _, _, d⟩, _⟩ := I.list h
  obtain ⟨its', r', ⟨o', n', e', _, _, d'⟩, _⟩ := I.list h'
  rw [e] at e'; cases e'
  rw [d] at d'
  injection d' with d1 _
  have : its = its' := by simpa using congrArg Array.toList d1
  subst this
  exact r.inj r'
end
abbrev Cx.wish (X : Cx) (E : Value → Shared → Prop) : Cx := { X with xe := E }
abbrev Cx.nox (X : Cx) : Cx := X.wish fun _ _ => False
theorem Cx.Ok.wish {X : Cx} (ok : X.Ok) (E : Value → Shared → Prop) : (X.wish E).Ok :=
  ⟨ok.mod, ok.kind, ok.glob, ok.blt, ok.above, ok.inj, ok.has, ok.cab, ok.hd, ok.frames, ok.stk, ok.exf, ok.bs, ok.bsz, ok.noex, ok.exfs, ok.funs, ok.frf⟩
theorem Cx.Ok.unwish {X : Cx} {E : Value → Shared → Prop} (ok : (X.wish E).Ok) : X.Ok :=
  ⟨ok.mod, ok.kind, ok.glob, ok.blt, ok.above, ok.inj, ok.has, ok.cab, ok.hd, ok.frames, ok.stk, ok.exf, ok.bs, ok.bsz, ok.noex, ok.exfs, ok.funs, ok.frf⟩
section
variable {X : Cx} {pins : List (Addr × Obj)} {σ : St} {H : Hp} {s : Shared} {E : Value → Shared → Prop}
theorem Inv.wish (I : Inv X pins σ H s) (E : Value → Shared → Prop) : Inv (X.wish E) pins σ H s := ⟨I.ok.wish E, I.os, I.bare, I.base, I.loc, I.cell, I.free, I.freeC, I.pin, I.hok, I.len⟩
theorem Inv.unwish (I : Inv (X.wish E) pins σ H s) : Inv X pins σ H s := ⟨I.ok.unwish, I.os, I.bare, I.base, I.loc, I.cell, I.free, I.freeC, I.pin, I.hok, I.len⟩
theorem SP.unwish {D : Ends} {f : Flow} {s' : Shared} (h : SP (X.wish E) pins D f s') : SP X pins D f s' := by
  cases f with
  | next => obtain ⟨σ', H', I, q⟩ := h; exact ⟨σ', H', I.unwish, q⟩
  | brk => obtain ⟨σ', H', I, q⟩ := h; exact ⟨σ', H', I.unwish, q⟩
  | cont => obtain ⟨σ', H', I, q⟩ := h; exact ⟨σ', H', I.unwish, q⟩
  | ret u => obtain ⟨v, σ', H', I, r, q⟩ := h; exact ⟨v, σ', H', I.unwish, r, q⟩
theorem PSs.nox {st : List Stmt} {t : TS} (h : PSs X.nox st t) : PSs X st t := fun pins s σ H D I hw =>
  wpAny_mono (h pins s σ H D (I.wish _) hw) (fun _ _ q => q.unwish) fun _ _ z => False.elim z
end
section
variable {X : Cx} {st : Stmt} {rest : List Stmt} {t u : TS} {e : Expr} {te : TE} {pos : Pos}
def tNext : TS := fun D σ H => D.nx σ H
def tSeq (t u : TS) : TS := fun D σ H => t { D with nx := u D } σ H
theorem pss_nil : PSs X [] tNext := fun _ _ σ H _ I h => wpAny_execs_nil ⟨σ, H, I, h⟩
theorem pss_cons (h1 : PS X st t) (h2 : PSs X rest u) : PSs X (st :: rest) (tSeq t u) := by
  intro pins s σ H D I h
  refine wpAny_execs_cons (thn (h1 pins s σ H { D with nx := u D } I h) fun f s1 q => ?_)
  cases f with
  | next =>
    obtain ⟨σ', H', I', q⟩ := q
    exact h2 pins s1 σ' H' D I' q
  | ret v => exact q
  | brk => exact q
  | cont => exact q
theorem pss_one (h1 : PS X st t) : PSs X [st] t := by
  intro pins s σ H D I h
  refine wpAny_execs_cons (thn (h1 pins s σ H D I h) fun f s1 q => ?_)
  cases f with
  | next => exact wpAny_execs_nil q
  | ret v => exact q
  | brk => exact q
  | cont => exact q
theorem Inv.quiet {pins : List (Addr × Obj)} {σ : St} {H : Hp} {s : Shared} (I : Inv X pins σ H s) : interactive X.env = false := by simp [interactive, I.ok.kind]
def tDrop (te : TE) : TS := fun D σ H => te σ H fun _ H1 => D.nx σ H1
theorem ps_expr (he : PE X e te) (hs : swapsWith e none pos.line X.env = pure false := by rfl) : PS X (.Expr e pos) (tDrop te) := by
  intro pins s σ H D I h
  refine wpAny_Expr_any (thn (he pins s σ H _ I h) fun v s1 hm0 => ?_) I.quiet hs
  obtain ⟨x, H1, I1, r1, q1⟩ := hm0
  exact ⟨σ, H1, I1, q1⟩
def tRet (te : TE) : TS := fun D σ H => te σ H D.rt
theorem ps_ret (he : PE X e te) : PS X (.Return (some e) pos) (tRet te) := by
  intro pins s σ H D I h
  refine wpAny_Return_some (thn (he pins s σ H _ I h) fun v s1 hm0 => ?_)
  obtain ⟨x, H1, I1, r1, q1⟩ := hm0
  exact ⟨x, σ, H1, I1, r1, q1⟩
def tIfS (c : TT) (t u : TS) : TS := fun D σ H => c σ H fun b H1 => if b = true then t D σ H1 else u D σ H1
theorem ps_if {c : Expr} {a b : List Stmt} {tc : TT} (hc : PT X c tc) (ha : PSs X a t) (hb : PSs X b u) : PS X (.If c a b pos) (tIfS tc t u) := by
  intro pins s σ H D I h
  refine wpAny_If (thn (hc pins s σ H _ I h) fun d s1 hm0 => ?_)
  obtain ⟨H1, I1, q1⟩ := hm0
  cases d with
  | true => exact ha pins s1 σ H1 D I1 q1
  | false => exact hb pins s1 σ H1 D I1 q1
end
abbrev TG := V → St → Hp → (St → Hp → Prop) → Prop
abbrev TGs := List V → St → Hp → (St → Hp → Prop) → Prop
def PG (X : Cx) (target : Expr) (t : TG) : Prop :=
  ∀ (pins : List (Addr × Obj)) (s : Shared) (σ : St) (H : Hp) (v : V) (u : Value) (Q : St → Hp → Prop), Inv X pins σ H s → RelV v u → t v σ H Q →
    wpAny (model X.prog X.w) X.A (assign target X.env u) (fun _ s' => ∃ σ' H', Inv X pins σ' H' s' ∧ Q σ' H') X.xe s
def PGs (X : Cx) (ts : List Expr) (t : TGs) : Prop :=
  ∀ (pins : List (Addr × Obj)) (s : Shared) (σ : St) (H : Hp) (vs : List V) (us : List Value) (Q : St → Hp → Prop), Inv X pins σ H s → Vals vs us → t vs σ H Q →
    wpAny (model X.prog X.w) X.A (assignInOrder ((assignEach ts X.env).map (·.2)) us) (fun _ s' => ∃ σ' H', Inv X pins σ' H' s' ∧ Q σ' H') X.xe s
abbrev TSet := V → V → V → Hp → (Hp → Prop) → Prop
def PSet (X : Cx) (t : TSet) : Prop :=
  ∀ (pins : List (Addr × Obj)) (s : Shared) (σ : St) (H : Hp) (o i v : V) (ov iv u : Value) (Q : Hp → Prop), Inv X pins σ H s → RelV o ov → RelV i iv → RelV v u → t o i v H Q →
    wpAny (model X.prog X.w) X.A (setItem ov iv u) (fun _ s' => ∃ H', Inv X pins σ H' s' ∧ Q H') X.xe s
section
variable {X : Cx} {pos : Pos}
def gName (i : Nat) : TG := fun v σ H Q => Q (σ.set i (some v)) H
theorem pg_name {i : Nat} {x : Str} (hN : X.N.Nodup) (hi : X.N[i]? = some x) (hx : Loc X.env.scope x) (hf : X.fn x = true ∨ X.env.scope.names.lookup x = some .local := by first | exact .inl rfl | exact .inr rfl | assumption) : PG X (.Name x pos) (gName i) := by
  intro pins s σ H v u Q I r h
  exact wpAny_assign_Name (store_ok I hN hi hx r (fun s' I' => ⟨_, H, I', h⟩) hf)
def gNil : TGs := fun vs σ H Q => vs = [] ∧ Q σ H
def gCons (t : TG) (u : TGs) : TGs := fun vs σ H Q => ∃ v r, vs = v :: r ∧ t v σ H fun σ' H' => u r σ' H' Q
theorem pgs_nil : PGs X [] gNil := by
  intro pins s σ H vs us Q I r h
  obtain ⟨e, h⟩ := h
  subst e
  cases r
  exact assignInOrder_nil ⟨σ, H, I, h⟩
theorem pgs_cons {e : Expr} {es : List Expr} {t : TG} {u : TGs} (h1 : PG X e t) (h2 : PGs X es u)
    (hs : (assignEach (e :: es) X.env).map (·.2) = assign e X.env :: (assignEach es X.env).map (·.2) := by rfl) : PGs X (e :: es) (gCons t u) := by
  intro pins s σ H vs us Q I r h
  obtain ⟨v, vr, e1, h⟩ := h
  subst e1
  cases r with
  | cons r rr =>
    rw [hs]
    refine assignInOrder_cons (thn (h1 pins s σ H _ _ _ I r h) fun _ s1 hm0 => ?_)
    obtain ⟨σ1, H1, I1, q1⟩ := hm0
    exact h2 pins s1 σ1 H1 _ _ Q I1 rr q1
def gTup (K : PySem.W.Frag) (n : Nat) (t : TGs) : TG := fun v σ H Q => ∃ a xs, v = .ref a ∧ SqT K H a xs ∧ xs.length = n ∧ t xs σ H Q
theorem pg_tup {es : List Expr} {k : Nat} {t : TGs} {n : Nat} (hc : X.calm = true) (h : PGs X es t)
    (hn : (assignEach es X.env).length = n := by rfl) (hst : (assignEach es X.env).findIdx? (·.1) = none := by rfl) : PG X (.Tuple es k pos) (gTup X.K n t) := by
  intro pins s σ H v u Q I r hw
  obtain ⟨a, xs, e1, hq, hl, hw⟩ := hw
  subst e1
  cases r
  obtain ⟨its, rv, ht, hz⟩ := I.tuple hq
  refine assign_Tuple_tuple (I.ok.hd hc) ht (by simp [hn, ← hl, rv.length]) hst fun h' hx => ?_
  have I1 : Inv X pins σ H { s with heap := h' } := I.kept (t' := s.toks) fun b o e => hx b o (Nat.ne_of_lt (Heap.lt_size e)) e
  exact h pins _ σ H xs _ Q I1 (by simpa using rv) hw
def gSub (to ti : TE) (t : TSet) : TG := fun v σ H Q => to σ H fun o H1 => ti σ H1 fun i H2 => t o i v H2 fun H3 => Q σ H3
theorem pg_sub {o i : Expr} {to ti : TE} {t : TSet} (ho : PE X o to) (hi : PE X i ti) (hs : PSet X t)
    (ha : ∀ v, assign (.Subscript o i pos) X.env v = (do
      let ov ← holding [v] (eval o X.env)
      let iv ← holding [v, ov] (eval i X.env)
      standAt pos
      holding [v, ov, iv] (setItem ov iv v)
      release [v, ov, iv] []) := by intro _; rfl) : PG X (.Subscript o i pos) (gSub to ti t) := by
  intro pins s σ H v u Q I r h
  rw [ha]
  refine wpAny_bind (wpAny_holding (thn (ho pins s σ H _ I h) fun ov s1 hm0 => ?_))
  obtain ⟨x, H1, I1, r1, q1⟩ := hm0
  refine wpAny_bind (wpAny_holding (thn (hi pins s1 σ H1 _ I1 q1) fun iv s2 hm0 => ?_))
  obtain ⟨y, H2, I2, r2, q2⟩ := hm0
  refine wpAny_bind (wpAny_standAt (wpAny_bind (wpAny_holding (thn (hs pins s2 σ H2 x y v ov iv u _ I2 r1 r2 r q2) fun _ s3 hm0 => ?_))))
  obtain ⟨H3, I3, q3⟩ := hm0
  exact wpAny_release ⟨σ, H3, I3, q3⟩
def tAsg (te : TE) (g : TG) : TS := fun D σ H => te σ H fun x H1 => g x σ H1 D.nx
theorem ps_asg {tg e : Expr} {te : TE} {g : TG} (he : PE X e te) (hg : PG X tg g) (hs : swapsWithSole [tg] e pos.line X.env = pure false := by rfl) (hw : swappedStores [tg] e X.env = pure none := by rfl)
    (h1 : (assignEach [tg] X.env).map (·.2) = [assign tg X.env] := by rfl) : PS X (.Assign [tg] e pos) (tAsg te g) := by
  intro pins s σ H D I h
  refine wpAny_Assign_stores (thn (he pins s σ H _ I h) fun v s1 hm0 => ?_) hs hw
  obtain ⟨x, H1, I1, r1, q1⟩ := hm0
  rw [h1]
  exact thn (hg pins s1 σ H1 x v _ I1 r1 q1) fun _ s2 q => q
theorem ps_set {i : Nat} {x : Str} {e : Expr} {te : TE} {pos' : Pos} (hN : X.N.Nodup) (hi : X.N[i]? = some x) (hx : Loc X.env.scope x) (he : PE X e te) (hs : swapsWith e (some (.Name x pos')) pos.line X.env = pure false := by rfl) (hf : X.fn x = true ∨ X.env.scope.names.lookup x = some .local := by first | exact .inl rfl | exact .inr rfl | assumption) :
    PS X (.Assign [.Name x pos'] e pos) (tAsg te (gName i)) := by
  intro pins s σ H D I h
  refine wpAny_Assign_Name (thn (he pins s σ H _ I h) fun v s1 hm0 => ?_) hs
  obtain ⟨y, H1, I1, r1, q1⟩ := hm0
  exact store_ok I1 hN hi hx r1 (fun s2 I2 => ⟨_, H1, I2, q1⟩) hf
end
section
variable {X : Cx} {pos : Pos}
def tWhile (c : TT) (tb : TS) : TS := fun D σ H => ∃ W : Nat → St → Hp → Prop, (∃ m, W m σ H) ∧ ∀ m σ H, W m σ H →
  c σ H fun b H1 => if b = true then ∃ N : St → Hp → Prop, (∀ σ' H', N σ' H' → ∃ m', m' < m ∧ W m' σ' H') ∧ tb { D with nx := N, ct := N, bk := D.nx } σ H1 else D.nx σ H1
theorem ps_while {c : Expr} {body : List Stmt} {tc : TT} {tb : TS} (hp : PassesOwn (model X.prog X.w) X.A X.env X.xe) (hc : PT X c tc) (hb : PSs X body tb) : PS X (.While c body [] pos) (tWhile tc tb) := by
  intro pins s σ H D I h
  obtain ⟨W, ⟨m0, w0⟩, turn⟩ := h
  refine wpAny_While (codeAny_whileLoop (fun n s' => ∃ σ' H', Inv X pins σ' H' s' ∧ W n σ' H') ?_ m0 ⟨σ, H, I, w0⟩)
  rintro n s1 ⟨σ1, H1, I1, w1⟩
  refine wpAny_passesOwn hp (thn (hc pins s1 σ1 H1 _ I1 (turn n σ1 H1 w1)) fun b s2 hm0 => ?_)
  obtain ⟨H2, I2, q2⟩ := hm0
  cases b with
  | true =>
    obtain ⟨N, hN, q2⟩ := q2
    rw [if_pos rfl]
    refine wpAny_passesOwn hp (thn (hb pins s2 σ1 H2 _ I2 q2) fun f s3 q3 => ?_)
    cases f with
    | next =>
      obtain ⟨σ3, H3, I3, n3⟩ := q3
      obtain ⟨m', hm, w3⟩ := hN σ3 H3 n3
      exact ⟨m', hm, σ3, H3, I3, w3⟩
    | cont =>
      obtain ⟨σ3, H3, I3, n3⟩ := q3
      obtain ⟨m', hm, w3⟩ := hN σ3 H3 n3
      exact ⟨m', hm, σ3, H3, I3, w3⟩
    | brk => exact q3
    | ret v => exact q3
  | false =>
    rw [if_neg Bool.false_ne_true]
    exact wpAny_execs_nil ⟨σ1, H2, I2, q2⟩
end
structure It where
  go : Nat → Hp → Prop
  yld : Nat → Hp → V → Hp → Prop
  stop : Nat → Hp → Prop
def FpOk (X : Cx) (pins : List (Addr × Obj)) (H : Hp) (b : Addr) : Prop :=
  H b = none ∧ b ≠ X.env.locals ∧ b ∉ X.fs ∧ (b ∈ X.ex ∨ X.s₀.heap.objs.size ≤ b) ∧ (∀ x c, X.env.cells.lookup x = some c → c ≠ b) ∧ ∀ p ∈ X.pn ++ pins, p.1 ≠ b
theorem Inv.fpOk {X : Cx} {pins : List (Addr × Obj)} {σ : St} {H H' : Hp} {s : Shared} {b : Addr} (I : Inv X pins σ H s) (hb : s.heap.objs.size ≤ b) (hn : H' b = none) : FpOk X pins H' b := by
  refine ⟨hn, Nat.ne_of_gt (Nat.lt_of_lt_of_le I.lt hb), I.nofs hb, .inr (Nat.le_trans I.sz hb), fun x c e z => ?_, fun p hp z => ?_⟩
  · obtain ⟨v, q⟩ := I.cell x c e
    exact absurd (Nat.lt_of_lt_of_le q.lt (by rw [z]; exact hb)) (Nat.lt_irrefl _)
  · exact absurd (Nat.lt_of_lt_of_le (Heap.lt_size (I.pin p hp).1) (by rw [z]; exact hb)) (Nat.lt_irrefl _)
structure Turn (P : Program) (w : World) (K : PySem.W.Frag) (tg : Expr) (J : It) (fp : List Addr) (it : Addr) (tn : Nat → Heap → Prop) : Prop where
  mem : it ∈ fp
  obj : ∀ i h, tn i h → ∀ b ∈ fp, ∃ o, h.get? b = some o ∧ ∀ v, o.data ≠ .cell v
  keep : ∀ i h h', tn i h → (∀ b ∈ fp, ∀ o, h.get? b = some o → h'.get? b = some o) → tn i h'
  item : ∀ (X : Cx), X.prog = P → X.w = w → X.K = K → X.calm = true → ∀ (i : Nat) (pins : List (Addr × Obj)) (s : Shared) (σ : St) (H : Hp) (E : Value → Shared → Prop), Inv X pins σ H s → (∀ b ∈ fp, FpOk X pins H b) → tn i s.heap → J.go i H →
    wpAny (model P w) X.A (pyNext (.ref it)) (fun r s1 => ∃ u, r = some u ∧
      wpAny (model P w) X.A (letOwnedTupleGo tg (.ref it) u) (fun _ s2 => ∃ x H', Inv X pins σ H' s2 ∧ RelV x u ∧ J.yld i H x H' ∧ tn (i + 1) s2.heap ∧ ∀ b ∈ fp, H' b = none) E s1) E s
  done : ∀ (X : Cx), X.prog = P → X.w = w → X.K = K → X.calm = true → ∀ (i : Nat) (pins : List (Addr × Obj)) (s : Shared) (σ : St) (H : Hp) (E : Value → Shared → Prop), Inv X pins σ H s → (∀ b ∈ fp, FpOk X pins H b) → tn i s.heap → J.stop i H →
    wpAny (model P w) X.A (pyNext (.ref it)) (fun r s1 => r = none ∧ Inv X pins σ H s1) E s
  self : ∀ (A : Around) (i : Nat) (s : Shared) (Q : Value → Shared → Prop) (E : Value → Shared → Prop), tn i s.heap → Q (.ref it) s → wpAny (model P w) A (pyIter (.ref it)) Q E s
abbrev TI := St → Hp → (It → Hp → Prop) → Prop
def PIE (X : Cx) (pins : List (Addr × Obj)) (σ : St) (tg : Expr) (R : It → Hp → Prop) (itv : Value) (s2 : Shared) : Prop :=
  ∃ (it : Addr) (fp : List Addr) (tn : Nat → Heap → Prop) (J : It) (H' : Hp), itv = .ref it ∧ Inv X pins σ H' s2 ∧ Turn X.prog X.w X.K tg J fp it tn ∧ tn 0 s2.heap ∧ (∀ b ∈ fp, FpOk X pins H' b) ∧ R J H'
def PI (X : Cx) (tg iter : Expr) (wi : TI) : Prop :=
  ∀ (pins : List (Addr × Obj)) (s : Shared) (σ : St) (H : Hp) (R : It → Hp → Prop), Inv X pins σ H s → wi σ H R →
    wpAny (model X.prog X.w) X.A (eval iter X.env) (fun v s1 => wpAny (model X.prog X.w) X.A (pyIter v) (PIE X pins σ tg R) X.xe s1) X.xe s
theorem go_of {M : Model} {A : Around} {E : Value → Shared → Prop} {s : Shared} {tg : Expr} {it : Addr} {u : Value} {o : Obj} {n : String} {vs : Array Value} {Q : Unit → Shared → Prop} (ho : s.heap.get? it = some o) (hc : o.cls = .type n) (hd : o.data = .fields vs)
    (hn : ["enumerate", "zip", "dict_itemiterator", "dict_reverseitemiterator", "odict_iterator", "itertools.zip_longest", "itertools.pairwise"].contains n = false) (hQ : Q () s) : wpAny M A (letOwnedTupleGo tg (.ref it) u) Q E s := by
  unfold letOwnedTupleGo
  cases tg <;> first
    | exact wpAny_pure hQ
    | (cases u <;> first
        | exact wpAny_pure hQ
        | (refine wpAny_bind (wpAny_load ho ?_)
           rw [hc, hd]
           show wpAny M A (if (["enumerate", "zip", "dict_itemiterator", "dict_reverseitemiterator", "odict_iterator", "itertools.zip_longest", "itertools.pairwise"].contains n && vs[0]? == some (rawInt _)) = true then _ else _) Q E s
           rw [if_neg (by intro h; rw [hn, Bool.false_and] at h; cases h)]
           exact wpAny_pure hQ))
def Itl (K : PySem.W.Frag) (a : Addr) : It :=
  ⟨fun i H => ∃ xs x, SqL K H a xs ∧ xs[i]? = some x, fun i H x H' => H' = H ∧ ∀ xs, SqL K H a xs → xs[i]? = some x, fun i H => ∃ xs, SqL K H a xs ∧ xs.length ≤ i⟩
def Itr (lo : Int) (n : Nat) : It := ⟨fun i _ => i < n, fun i H x H' => H' = H ∧ x = .int (lo + i), fun i _ => n ≤ i⟩
theorem turn_list {P : Program} {w : World} {K : PySem.W.Frag} {tg : Expr} (a it : Addr) : Turn P w K tg (Itl K a) [it] it (fun i h => h.IsListIter it a i) where
  mem := by simp
  obj := fun i h st b hb => by
    have e : b = it := by simpa using hb
    subst e
    obtain ⟨o, e, c, d⟩ := st
    exact ⟨o, e, fun v z => by rw [d] at z; cases z⟩
  keep := fun i h h' st k => st.at fun o e => k it (by simp) o e
  item := by
    intro X hP hw hK hc i pins s σ H E I hf st hg
    subst hP hw hK
    obtain ⟨xs, x, hq, hx⟩ := hg
    obtain ⟨its, rv, p, hz⟩ := I.list hq
    obtain ⟨u, hu, ru⟩ := rv.get hx
    obtain ⟨f0, f1, f2, f3, f4, f5⟩ := hf it (by simp)
    refine wpAny_pyNext_list_item st p.isList (x := u) (by simpa using hu) fun h' st' sb => ?_
    have I1 : Inv X pins σ H { s with heap := h' } := I.turned (t' := s.toks) (fun b o hb e => (sb.2 b hb).trans e) f0 f1 f3 f4 f5
    obtain ⟨o, e, c, d⟩ := id st'
    exact ⟨u, rfl, go_of (s := { s with heap := h' }) e c d (by decide) ⟨x, H, I1, ru, ⟨rfl, fun ys hy => by rw [I.list_inj hy hq]; exact hx⟩, st', fun b hb => (hf b hb).1⟩⟩
  done := by
    intro X hP hw hK hc i pins s σ H E I hf st hg
    subst hP hw hK
    obtain ⟨xs, hq, hx⟩ := hg
    obtain ⟨its, rv, p, hz⟩ := I.list hq
    obtain ⟨f0, f1, f2, f3, f4, f5⟩ := hf it (by simp)
    have hl := rv.length
    exact wpAny_pyNext_list_end (I.ok.hd hc) st p.isList (by simp; omega) fun h' eb => ⟨rfl, I.turned (t' := s.toks) (fun b o hb e => eb b o hb e) f0 f1 f3 f4 f5⟩
  self := fun _ _ _ _ _ st h => wpAny_pyIter_listiter st h
theorem turn_range {P : Program} {w : World} {K : PySem.W.Frag} {tg : Expr} (it : Addr) (lo : Int) (n : Nat) : Turn P w K tg (Itr lo n) [it] it (fun i h => IsRangeIter h it (lo + (i : Nat) * 1) ((n : Int) - (i : Nat)) 1) where
  mem := by simp
  obj := fun i h st b hb => by
    have e : b = it := by simpa using hb
    subst e
    exact ⟨_, st, fun v z => by
      have z' : Data.fields _ = Data.cell v := z
      cases z'⟩
  keep := fun i h h' st k => k it (by simp) _ st
  item := by
    intro X hP hw hK hc i pins s σ H E I hf st hg
    subst hP hw hK
    obtain ⟨f0, f1, f2, f3, f4, f5⟩ := hf it (by simp)
    have W := Walks.range (prog := X.prog) (w := X.w) (I.ok.hd hc) it lo 1 n
    refine W.item i s _ _ hg st fun v h' tk hv st' kk => ?_
    obtain ⟨t, rfl⟩ := hv
    have I1 : Inv X pins σ H { s with heap := h', toks := tk } := I.turned (fun b o hb e => kk b o (by simpa using hb) e) f0 f1 f3 f4 f5
    refine ⟨_, rfl, go_of (s := { s with heap := h', toks := tk }) (n := "range_iterator") st' rfl rfl (by decide) ⟨.int (lo + i), H, I1, ⟨t, ?_⟩, ⟨rfl, rfl⟩, st', fun b hb => (hf b hb).1⟩⟩
    rw [Int.mul_one]
  done := by
    intro X hP hw hK hc i pins s σ H E I hf st hg
    subst hP hw hK
    obtain ⟨f0, f1, f2, f3, f4, f5⟩ := hf it (by simp)
    exact wpAny_pyNext_range_end (I.ok.hd hc) st (by have : n ≤ i := hg; omega) fun h' eb => ⟨rfl, I.turned (t' := s.toks) (fun b o hb e => eb b o hb e) f0 f1 f3 f4 f5⟩
  self := fun _ _ _ _ _ st h => wpAny_pyIter_rangeiter st h
end L2
namespace L2
open PySem PySem.Spec PyProof.Rows
section
variable {X : Cx} {tg : Expr}
def iList (K : PySem.W.Frag) (tl : TE) : TI := fun σ H R => tl σ H fun x H1 => ∃ a, x = .ref a ∧ (∃ xs, SqL K H1 a xs) ∧ R (Itl K a) H1
theorem pi_list {l : Expr} {tl : TE} (hl : PE X l tl) : PI X tg l (iList X.K tl) := by
  intro pins s σ H R I h
  refine thn (hl pins s σ H _ I h) fun v s1 hm0 => ?_
  obtain ⟨x, H1, I1, r1, q1⟩ := hm0
  obtain ⟨a, e, ⟨xs, hq⟩, q⟩ := q1
  subst e
  cases r1
  obtain ⟨its, rv, p, hz⟩ := I1.list hq
  refine wpAny_pyIter_list p.isList ?_
  refine ⟨s1.heap.objs.size, [s1.heap.objs.size], _, _, H1, rfl, I1.kept (t' := s1.toks) fun b o e => Heap.get?_push_of_some _ e, turn_list a _, ⟨_, Heap.get?_push_size _ rfl, rfl, rfl⟩, fun b hb => ?_, q⟩
  have e : b = s1.heap.objs.size := by simpa using hb
  subst e
  exact I1.fpOk (Nat.le_refl _) (I1.hok.fresh (Nat.le_refl _))
theorem range_it {pins : List (Addr × Obj)} {σ : St} {H : Hp} {s : Shared} {R : It → Hp → Prop} {E : Value → Shared → Prop} {lo hi : Int} {t u v : Tok} {tk : Nat} (I : Inv X pins σ H s) (h1 : -(2 ^ 62) ≤ lo) (h2 : lo < 2 ^ 62) (h3 : -(2 ^ 62) ≤ hi) (h4 : hi < 2 ^ 62)
    (q : R (Itr lo (hi - lo).toNat) H) : wpAny (model X.prog X.w) X.A (pyIter (.ref s.heap.objs.size)) (PIE X pins σ tg R) E { s with heap := s.heap.push { cls := .type "range", data := .fields #[.int lo t, .int hi u, .int 1 v] }, toks := tk } := by
  refine wpAny_pyIter_range (IsRange.new ..) (small_one h1 h2 h3 h4) ?_
  have I1 : Inv X pins σ H { s with heap := s.heap.push { cls := .type "range", data := .fields #[.int lo t, .int hi u, .int 1 v] }, toks := tk } := I.kept fun b o e => Heap.get?_push_of_some _ e
  refine ⟨(s.heap.push { cls := .type "range", data := .fields #[.int lo t, .int hi u, .int 1 v] }).objs.size, [(s.heap.push { cls := .type "range", data := .fields #[.int lo t, .int hi u, .int 1 v] }).objs.size], _, _, H, rfl,
    I1.kept (t' := tk) fun b o e => Heap.get?_push_of_some _ e, turn_range _ lo (hi - lo).toNat, ?_, fun b hb => ?_, q⟩
  · have e1 : lo + ((0 : Nat) : Int) * 1 = lo := by simp
    have e2 : (((hi - lo).toNat : Nat) : Int) - ((0 : Nat) : Int) = Builtin.Range.rangeSize lo hi 1 := by rw [rangeSize_one]; split <;> omega
    show IsRangeIter _ _ (lo + ((0 : Nat) : Int) * 1) ((((hi - lo).toNat : Nat) : Int) - ((0 : Nat) : Int)) 1
    rw [e1, e2]
    exact Heap.get?_push_size _ rfl
  · have e : b = (s.heap.push { cls := .type "range", data := .fields #[.int lo t, .int hi u, .int 1 v] }).objs.size := by simpa using hb
    subst e
    exact I1.fpOk (Nat.le_refl _) (I1.hok.fresh (Nat.le_refl _))
def iRng1 (ta : TA) : TI := fun σ H R => ta σ H fun vs H1 => ∃ j : Int, vs = [.int j] ∧ -(2 ^ 62) ≤ j ∧ j < 2 ^ 62 ∧ R (Itr 0 j.toNat) H1
theorem pi_range1 {a : Expr} {ta : TA} {p pos : Pos} (hg : Gl X "range") (hm : X.mg "range" = none) (ha : PA X [a] ta) (hs : starEach [a] X.env = [(false, eval a X.env)] := by rfl) : PI X tg (.Call (.Name "range" p) [a] [] pos) (iRng1 ta) := by
  intro pins s σ H R I h
  refine Call_ (ld_blt I hg hm boot_range (PyProof.Rows.callWith_type1 (thn (ha pos pins s σ H _ I h) fun us s1 hm0 => ?_) hs rfl))
  obtain ⟨vs, H1, I1, r1, q1⟩ := hm0
  obtain ⟨j, e, q1, q2, q⟩ := q1
  subst e
  cases r1 with
  | cons r rr =>
    cases rr
    obtain ⟨t, rfl⟩ := r
    exact call_range_1 (range_it I1 (by omega) (by omega) q1 q2 (by simpa using q))
def tFor (wi : TI) (g : TG) (tb : TS) : TS := fun D σ H => wi σ H fun J H1 => ∃ W : Nat → Nat → St → Hp → Prop, (∃ m, W 0 m σ H1) ∧ ∀ i m σ H, W i m σ H →
  (J.stop i H ∧ D.nx σ H) ∨ (J.go i H ∧ ∃ N : St → Hp → Prop, (∀ σ' H', N σ' H' → ∃ m', m' < m ∧ W (i + 1) m' σ' H') ∧ ∀ x H', J.yld i H x H' → g x σ H' fun σ2 H2 => tb { D with nx := N, ct := N, bk := D.nx } σ2 H2)
def pinsAt (fp : List Addr) (h : Heap) : List (Addr × Obj) := fp.filterMap fun b => (h.get? b).map fun o => (b, o)
theorem mem_pinsAt {fp : List Addr} {h : Heap} {b : Addr} {o : Obj} (hb : b ∈ fp) (e : h.get? b = some o) : (b, o) ∈ pinsAt fp h := List.mem_filterMap.mpr ⟨b, hb, by rw [e]; rfl⟩
theorem of_pinsAt {fp : List Addr} {h : Heap} {p : Addr × Obj} (hp : p ∈ pinsAt fp h) : p.1 ∈ fp ∧ h.get? p.1 = some p.2 := by
  obtain ⟨b, hb, e⟩ := List.mem_filterMap.mp hp
  cases q : h.get? b with
  | none => rw [q] at e; cases e
  | some o =>
    rw [q] at e
    have e' : (b, o) = p := Option.some.inj e
    subst e'
    exact ⟨hb, q⟩
theorem Inv.pinned {pins : List (Addr × Obj)} {σ : St} {H : Hp} {s : Shared} {fp : List Addr} (I : Inv X pins σ H s) (hf : ∀ b ∈ fp, FpOk X pins H b) (ho : ∀ b ∈ fp, ∃ o, s.heap.get? b = some o ∧ ∀ v, o.data ≠ .cell v) : Inv X (pins ++ pinsAt fp s.heap) σ H s :=
  I.pins_of fun p hp => (List.mem_append.mp hp).elim (fun z => I.pin p (List.mem_append_right _ z)) fun z => by
    obtain ⟨hb, e⟩ := of_pinsAt z
    obtain ⟨f0, f1, f2, _⟩ := hf p.1 hb
    obtain ⟨o, e', d⟩ := ho p.1 hb
    rw [e] at e'; cases e'
    exact ⟨e, f0, f1, f2, d⟩
theorem Inv.unpinned {pins pl : List (Addr × Obj)} {σ : St} {H : Hp} {s : Shared} (I : Inv X (pins ++ pl) σ H s) : Inv X pins σ H s := I.pins_of fun p hp => I.pin p (List.mem_append_right _ (List.mem_append_left _ hp))
theorem ps_for {iter : Expr} {body : List Stmt} {wi : TI} {g : TG} {tb : TS} {pos : Pos} (hp : PassesOwn (model X.prog X.w) X.A X.env X.xe) (hc : X.calm = true) (hi : PI X tg iter wi) (hg : PG X tg g) (hb : PSs X body tb)
    (hs : ∀ x, foldedSetIterable iter X.env x = pure x := by intro _; rfl) : PS X (.For tg iter body [] pos) (tFor wi g tb) := by
  intro pins s σ H D I h
  refine wpAny_For (thn (hi pins s σ H _ I h) fun v s1 h1 => thn h1 fun itv s2 h2 => ?_) hs
  obtain ⟨it, fp, tn, J, H2, e, I2, T, st2, f2, W, ⟨m0, w0⟩, turn⟩ := h2
  subst e
  have stat : ∀ {H' : Hp}, (∀ b ∈ fp, H' b = none) → ∀ b ∈ fp, FpOk X pins H' b := fun hn b hb => ⟨hn b hb, (f2 b hb).2⟩
  refine codeAny_forLoop_any (fun n s' => ∃ i σ' H', Inv X pins σ' H' s' ∧ tn i s'.heap ∧ (∀ b ∈ fp, H' b = none) ∧ W i n σ' H') ?_ m0 ⟨0, σ, H2, I2, st2, fun b hb => (f2 b hb).1, w0⟩
  rintro n s3 ⟨i, σ3, H3, I3, st3, fr3, w3⟩
  rcases turn i n σ3 H3 w3 with ⟨stop, qn⟩ | ⟨go, N, hN, step⟩
  · refine wpAny_passesOwn hp (thn (T.done X rfl rfl rfl hc i pins s3 σ3 H3 X.xe I3 (stat fr3) st3 stop) fun r s4 hm0 => ?_)
    obtain ⟨hr, I4⟩ := hm0
    subst hr
    exact wpAny_execs_nil ⟨σ3, H3, I4, qn⟩
  · refine wpAny_passesOwn hp (thn (T.item X rfl rfl rfl hc i pins s3 σ3 H3 X.xe I3 (stat fr3) st3 go) fun r s4 hm0 => ?_)
    obtain ⟨u, hr, h4⟩ := hm0
    subst hr
    refine wpAny_passesOwn hp (thn h4 fun _ s5 hm0 => ?_)
    obtain ⟨x, H5, I5, r5, y5, st5, fr5⟩ := hm0
    have I5' := I5.pinned (stat fr5) (T.obj _ _ st5)
    refine wpAny_passesOwn hp (thn (hg _ s5 σ3 H5 x u _ I5' r5 (step x H5 y5)) fun _ s6 hm0 => ?_)
    obtain ⟨σ6, H6, I6, q6⟩ := hm0
    refine wpAny_passesOwn hp (thn (hb _ s6 σ6 H6 _ I6 q6) fun f s7 q7 => ?_)
    have again : ∀ {σ7 : St} {H7 : Hp}, Inv X (pins ++ pinsAt fp s5.heap) σ7 H7 s7 → N σ7 H7 → ∃ m, m < n ∧ ∃ i σ' H', Inv X pins σ' H' s7 ∧ tn i s7.heap ∧ (∀ b ∈ fp, H' b = none) ∧ W i m σ' H' := fun {σ7 H7} I7 n7 => by
      obtain ⟨m', hm, w7⟩ := hN σ7 H7 n7
      refine ⟨m', hm, i + 1, σ7, H7, I7.unpinned, T.keep _ _ _ st5 fun b hb o e => (I7.pin (b, o) (List.mem_append_right _ (List.mem_append_right _ (mem_pinsAt hb e)))).1, fun b hb => ?_, w7⟩
      obtain ⟨o, e, d⟩ := T.obj _ _ st5 b hb
      exact (I7.pin (b, o) (List.mem_append_right _ (List.mem_append_right _ (mem_pinsAt hb e)))).2.1
    cases f with
    | next => obtain ⟨σ7, H7, I7, n7⟩ := q7; exact again I7 n7
    | cont => obtain ⟨σ7, H7, I7, n7⟩ := q7; exact again I7 n7
    | brk => obtain ⟨σ7, H7, I7, q7⟩ := q7; exact ⟨σ7, H7, I7.unpinned, q7⟩
    | ret v => obtain ⟨x7, σ7, H7, I7, r7, q7⟩ := q7; exact ⟨x7, σ7, H7, I7.unpinned, r7, q7⟩
end
theorem for_list {K : PySem.W.Frag} {a : Addr} {xs : List V} {g : TG} {tb : TS} {D : Ends} {σ : St} {H : Hp} (Pv : Nat → St → Hp → Prop) (h0 : Pv 0 σ H) (hl : ∀ i σ H, i ≤ xs.length → Pv i σ H → SqL K H a xs)
    (hs : ∀ i x σ H, xs[i]? = some x → Pv i σ H → g x σ H fun σ2 H2 => tb { D with nx := Pv (i + 1), ct := Pv (i + 1), bk := D.nx } σ2 H2) (hd : ∀ σ H, Pv xs.length σ H → D.nx σ H) :
    ∃ W : Nat → Nat → St → Hp → Prop, (∃ m, W 0 m σ H) ∧ ∀ i m σ H, W i m σ H →
      ((Itl K a).stop i H ∧ D.nx σ H) ∨ ((Itl K a).go i H ∧ ∃ N : St → Hp → Prop, (∀ σ' H', N σ' H' → ∃ m', m' < m ∧ W (i + 1) m' σ' H') ∧ ∀ x H', (Itl K a).yld i H x H' → g x σ H' fun σ2 H2 => tb { D with nx := N, ct := N, bk := D.nx } σ2 H2) := by
  refine ⟨fun i m σ H => m = xs.length - i ∧ i ≤ xs.length ∧ Pv i σ H, ⟨xs.length, by simp, Nat.zero_le _, h0⟩, ?_⟩
  rintro i m σ H ⟨rfl, hi, p⟩
  have q := hl i σ H hi p
  by_cases hlt : i < xs.length
  · refine .inr ⟨⟨xs, xs[i], q, by simp [hlt]⟩, Pv (i + 1), fun σ' H' p' => ⟨xs.length - (i + 1), by omega, rfl, hlt, p'⟩, fun x H' y => ?_⟩
    obtain ⟨e, y⟩ := y
    subst e
    exact hs i x σ _ (y xs q) p
  · have e : i = xs.length := by omega
    subst e
    exact .inl ⟨⟨xs, q, Nat.le_refl _⟩, hd σ H p⟩
theorem for_range {lo : Int} {n : Nat} {g : TG} {tb : TS} {D : Ends} {σ : St} {H : Hp} (Pv : Nat → St → Hp → Prop) (h0 : Pv 0 σ H)
    (hs : ∀ i σ H, i < n → Pv i σ H → g (.int (lo + i)) σ H fun σ2 H2 => tb { D with nx := Pv (i + 1), ct := Pv (i + 1), bk := D.nx } σ2 H2) (hd : ∀ σ H, Pv n σ H → D.nx σ H) :
    ∃ W : Nat → Nat → St → Hp → Prop, (∃ m, W 0 m σ H) ∧ ∀ i m σ H, W i m σ H →
      ((Itr lo n).stop i H ∧ D.nx σ H) ∨ ((Itr lo n).go i H ∧ ∃ N : St → Hp → Prop, (∀ σ' H', N σ' H' → ∃ m', m' < m ∧ W (i + 1) m' σ' H') ∧ ∀ x H', (Itr lo n).yld i H x H' → g x σ H' fun σ2 H2 => tb { D with nx := N, ct := N, bk := D.nx } σ2 H2) := by
  refine ⟨fun i m σ H => m = n - i ∧ i ≤ n ∧ Pv i σ H, ⟨n, by simp, Nat.zero_le _, h0⟩, ?_⟩
  rintro i m σ H ⟨rfl, hi, p⟩
  by_cases hlt : i < n
  · refine .inr ⟨hlt, Pv (i + 1), fun σ' H' p' => ⟨n - (i + 1), by omega, rfl, hlt, p'⟩, fun x H' y => ?_⟩
    obtain ⟨e, y⟩ := y
    subst e y
    exact hs i σ _ hlt p
  · have e : i = n := by omega
    subst e
    exact .inl ⟨Nat.le_refl _, hd σ H p⟩
end L2
namespace L2
open PySem PySem.Spec PyProof.Rows
abbrev R2 := V → V → Hp → VK → Prop
def OpR (X : Cx) (f : Value → Value → Sem Value) (r : R2) : Prop :=
  ∀ (pins : List (Addr × Obj)) (s : Shared) (σ : St) (H : Hp) (x y : V) (v u : Value) (Q : VK), Inv X pins σ H s → RelV x v → RelV y u → r x y H Q →
    wpAny (model X.prog X.w) X.A (f v u) (EP X pins σ Q) X.xe s
def UnR (X : Cx) (f : Value → Sem Value) (r : V → Hp → VK → Prop) : Prop :=
  ∀ (pins : List (Addr × Obj)) (s : Shared) (σ : St) (H : Hp) (x : V) (v : Value) (Q : VK), Inv X pins σ H s → RelV x v → r x H Q →
    wpAny (model X.prog X.w) X.A (f v) (EP X pins σ Q) X.xe s
def CallR (X : Cx) (f : Value) (r : List V → Hp → VK → Prop) : Prop :=
  ∀ (pins : List (Addr × Obj)) (s : Shared) (σ : St) (H : Hp) (xs : List V) (us : List Value) (Q : VK), Inv X pins σ H s → Vals xs us → r xs H Q →
    wpAny (model X.prog X.w) X.A (call f us) (EP X pins σ Q) X.xe s
def tOp (r : R2) (ta tb : TE) : TE := fun σ H Q => ta σ H fun x H1 => tb σ H1 fun y H2 => r x y H2 Q
def tUn (r : V → Hp → VK → Prop) (ta : TE) : TE := fun σ H Q => ta σ H fun x H1 => r x H1 Q
def rI (C : Int → Int → Prop) (g : Int → Int → V) : R2 := fun x y H Q => ∃ i j, x = .int i ∧ y = .int j ∧ C i j ∧ Q (g i j) H
def rI0 (g : Int → Int → V) : R2 := fun x y H Q => ∃ i j, x = .int i ∧ y = .int j ∧ Q (g i j) H
def rU (g : Int → V) : V → Hp → VK → Prop := fun x H Q => ∃ i, x = .int i ∧ Q (g i) H
section
variable {X : Cx} {a b c : Expr} {ta tb tc : TE} {pos : Pos}
theorem binT (ha : PE X a ta) (hb : PE X b tb) {pins : List (Addr × Obj)} {s : Shared} {σ : St} {H : Hp} {R : V → V → Hp → Prop} (I : Inv X pins σ H s)
    (h : ta σ H fun x H1 => tb σ H1 fun y H2 => R x y H2) {Q : Value → Shared → Prop} {f : Value → Value → Sem Value}
    (hf : ∀ v u s2 x y H2, Inv X pins σ H2 s2 → RelV x v → RelV y u → R x y H2 → wpAny (model X.prog X.w) X.A (f v u) Q X.xe s2) :
    wpAny (model X.prog X.w) X.A (eval a X.env) (fun v s₁ => wpAny (model X.prog X.w) X.A (eval b X.env) (fun u s₂ => wpAny (model X.prog X.w) X.A (f v u) Q X.xe s₂) X.xe s₁) X.xe s := by
  refine thn (ha pins s σ H _ I h) fun v s1 hm0 => ?_
  obtain ⟨x, H1, I1, r1, q1⟩ := hm0
  refine thn (hb pins s1 σ H1 _ I1 q1) fun u s2 hm0 => ?_
  obtain ⟨y, H2, I2, r2, q2⟩ := hm0
  exact hf v u s2 x y H2 I2 r1 r2 q2
theorem pe_op {op : Operator} {r : R2} (ho : OpR X (binaryOp op) r) (ha : PE X a ta) (hb : PE X b tb) : PE X (.BinOp a op b pos) (tOp r ta tb) := by
  intro pins s σ H Q I h
  exact wpAny_BinOp (binT ha hb I h fun v u s2 x y H2 I2 rx ry q => ho pins s2 σ H2 x y v u Q I2 rx ry q)
theorem pe_un {op : UnaryOp} {r : V → Hp → VK → Prop} (ho : UnR X (unaryOp op) r) (ha : PE X a ta) : PE X (.UnaryOp op a pos) (tUn r ta) := by
  intro pins s σ H Q I h
  refine UnaryOp_ (thn (ha pins s σ H _ I h) fun v s1 hm0 => ?_)
  obtain ⟨x, H1, I1, r1, q1⟩ := hm0
  exact ho pins s1 σ H1 x v Q I1 r1 q1
theorem opI {f : Value → Value → Sem Value} {C : Int → Int → Prop} {g : Int → Int → Int}
    (rule : ∀ (i j : Int) (t u : Tok) (s : Shared) (Q : Value → Shared → Prop) (E : Value → Shared → Prop), C i j → Q (.int (g i j) s.toks) { s with toks := s.toks + 1 } → wpAny (model X.prog X.w) X.A (f (.int i t) (.int j u)) Q E s) :
    OpR X f (rI C fun i j => .int (g i j)) := by
  intro pins s σ H x y v u Q I rx ry h
  obtain ⟨i, j, rfl, rfl, hc, q⟩ := h
  obtain ⟨t, rfl⟩ := rx
  obtain ⟨t', rfl⟩ := ry
  exact rule i j t t' s _ _ hc ⟨.int (g i j), H, I.tok _, ⟨_, rfl⟩, q⟩
theorem opI0 {f : Value → Value → Sem Value} {g : Int → Int → Int}
    (rule : ∀ (i j : Int) (t u : Tok) (s : Shared) (Q : Value → Shared → Prop) (E : Value → Shared → Prop), Q (.int (g i j) s.toks) { s with toks := s.toks + 1 } → wpAny (model X.prog X.w) X.A (f (.int i t) (.int j u)) Q E s) :
    OpR X f (rI0 fun i j => .int (g i j)) := by
  intro pins s σ H x y v u Q I rx ry h
  obtain ⟨i, j, rfl, rfl, q⟩ := h
  obtain ⟨t, rfl⟩ := rx
  obtain ⟨t', rfl⟩ := ry
  exact rule i j t t' s _ _ ⟨.int (g i j), H, I.tok _, ⟨_, rfl⟩, q⟩
theorem opB0 {f : Value → Value → Sem Value} {g : Int → Int → Bool}
    (rule : ∀ (i j : Int) (t u : Tok) (s : Shared) (Q : Value → Shared → Prop) (E : Value → Shared → Prop), Q (.bool (g i j)) s → wpAny (model X.prog X.w) X.A (f (.int i t) (.int j u)) Q E s) :
    OpR X f (rI0 fun i j => .bl (g i j)) := by
  intro pins s σ H x y v u Q I rx ry h
  obtain ⟨i, j, rfl, rfl, q⟩ := h
  obtain ⟨t, rfl⟩ := rx
  obtain ⟨t', rfl⟩ := ry
  exact rule i j t t' s _ _ ⟨.bl (g i j), H, I, rfl, q⟩
def CDiv (i j : Int) : Prop := 0 < j ∧ j < 1073741824
def CPow (i j : Int) : Prop := 0 ≤ j ∧ j ≤ 1000000 ∧ i.natAbs < 2 ^ 64
def CMul (i j : Int) : Prop := (-(2 ^ 64) < i ∧ i < 2 ^ 64) ∨ (-(2 ^ 64) < j ∧ j < 2 ^ 64)
theorem CMul.ok {i j : Int} (h : CMul i j) : IntMulOk i j := by
  rcases h with ⟨h1, h2⟩ | ⟨h1, h2⟩
  · exact .of_left (intBits_le_64 h1 h2)
  · exact .of_right (intBits_le_64 h1 h2)
theorem op_add : OpR X (binaryOp .Add) (rI0 fun i j => .int (i + j)) := opI0 fun _ _ _ _ _ _ _ q => add_int q
theorem op_sub : OpR X (binaryOp .Sub) (rI0 fun i j => .int (i - j)) := opI0 fun _ _ _ _ _ _ _ q => sub_int q
theorem op_mul : OpR X (binaryOp .Mult) (rI CMul fun i j => .int (i * j)) := opI fun _ _ _ _ _ _ _ hc q => mul_int q hc.ok
theorem op_fdiv : OpR X (binaryOp .FloorDiv) (rI CDiv fun i j => .int (i / j)) := opI fun i j _ _ _ _ _ hc q => by
  have h1 : (0 : Int) < j := hc.1
  have h2 : j < 1073741824 := hc.2
  exact floordiv_int (by omega) (by rw [Int.fdiv_eq_ediv_of_nonneg i (by omega)]; exact q) (.inl (PyProof.noPylong_small (by omega)))
theorem op_mod : OpR X (binaryOp .Mod) (rI (fun _ j => 0 < j) fun i j => .int (i % j)) := opI fun i j _ _ _ _ _ hc q => by
  have h1 : (0 : Int) < j := hc
  exact mod_int' (by omega) (by rw [Int.fmod_eq_emod_of_nonneg i (by omega)]; exact q)
theorem op_pow : OpR X (binaryOp .Pow) (rI CPow fun i j => .int (i ^ j.toNat)) := opI fun _ _ _ _ _ _ _ hc q => pow_int_small hc.1 hc.2.1 hc.2.2 q
theorem unI {f : Value → Sem Value} {g : Int → Int}
    (rule : ∀ (i : Int) (t : Tok) (s : Shared) (Q : Value → Shared → Prop) (E : Value → Shared → Prop), Q (.int (g i) s.toks) { s with toks := s.toks + 1 } → wpAny (model X.prog X.w) X.A (f (.int i t)) Q E s) :
    UnR X f (rU fun i => .int (g i)) := by
  intro pins s σ H x v Q I rx h
  obtain ⟨i, rfl, q⟩ := h
  obtain ⟨t, rfl⟩ := rx
  exact rule i t s _ _ ⟨.int (g i), H, I.tok _, ⟨_, rfl⟩, q⟩
theorem un_neg : UnR X (unaryOp .USub) (rU fun i => .int (-i)) := unI fun _ _ _ _ _ q => neg_int q
end
def scal : V → V → Bool
  | .non, .non => true | .non, .int _ => true | .int _, .non => true | .non, .bl _ => true | .bl _, .non => true | .non, .str _ => true | .str _, .non => true
  | .int _, .int _ => true | .bl _, .bl _ => true | .str _, .str _ => true | .byt _, .byt _ => true
  | .int _, .str _ => true | .str _, .int _ => true | .bl _, .str _ => true | .str _, .bl _ => true
  | _, _ => false
def rEq : R2 := fun x y H Q => scal x y = true ∧ Q (.bl (decide (x = y))) H
def rNe : R2 := fun x y H Q => scal x y = true ∧ Q (.bl (!decide (x = y))) H
theorem dec_int {i j : Int} : decide (V.int i = V.int j) = (i == j) := by
  rw [Bool.eq_iff_iff]
  simp
theorem dec_bl {i j : Bool} : decide (V.bl i = V.bl j) = (i == j) := by
  rw [Bool.eq_iff_iff]
  simp
theorem dec_str {i j : Str} : decide (V.str i = V.str j) = (i == j) := by
  rw [Bool.eq_iff_iff]
  simp
theorem dec_byt {i j : Array UInt8} : decide (V.byt i = V.byt j) = (i.toList == j.toList) := by
  rw [Bool.eq_iff_iff]
  cases i
  cases j
  simp
section
variable {X : Cx} {a b c : Expr} {ta tb tc : TE} {pos : Pos}
theorem fin_bl {pins : List (Addr × Obj)} {σ : St} {H : Hp} {s : Shared} {Q : VK} {k k' : Bool} (I : Inv X pins σ H s) (q : Q (.bl k) H) (e : k = k') : EP X pins σ Q (.bool k') s := by
  subst e
  exact ⟨.bl k, H, I, rfl, q⟩
theorem op_eq : OpR X (compareOp .Eq) rEq := by
  intro pins s σ H x y v u Q I rx ry h
  obtain ⟨hs, q⟩ := h
  cases x with
  | non =>
    cases rx
    cases y with
    | non => cases ry; exact PySem.EqNone.eq_none_none (fin_bl I q (by simp))
    | bl j => cases ry; exact PySem.EqNone.eq_none_bool (fin_bl I q (by simp))
    | int j => obtain ⟨t', rfl⟩ := ry; exact PySem.EqNone.eq_none_int (fin_bl I q (by simp))
    | str j => obtain ⟨t', rfl⟩ := ry; exact PySem.EqNone.eq_none_str (fin_bl I q (by simp))
    | _ => exact absurd (show false = true from hs) Bool.false_ne_true
  | bl i =>
    cases rx
    cases y with
    | non => cases ry; exact PySem.EqNone.eq_bool_none (fin_bl I q (by simp))
    | bl j => cases ry; exact eq_bool (fin_bl I q dec_bl)
    | str j => obtain ⟨t', rfl⟩ := ry; exact PySem.EqMixed.eq_bool_str (fin_bl I q (by simp))
    | _ => exact absurd (show false = true from hs) Bool.false_ne_true
  | int i =>
    obtain ⟨t, rfl⟩ := rx
    cases y with
    | non => cases ry; exact PySem.EqNone.eq_int_none (fin_bl I q (by simp))
    | int j => obtain ⟨t', rfl⟩ := ry; exact eq_int (fin_bl I q dec_int)
    | str j => obtain ⟨t', rfl⟩ := ry; exact PySem.EqMixed.eq_int_str (fin_bl I q (by simp))
    | _ => exact absurd (show false = true from hs) Bool.false_ne_true
  | str i =>
    obtain ⟨t, rfl⟩ := rx
    cases y with
    | non => cases ry; exact PySem.EqNone.eq_str_none (fin_bl I q (by simp))
    | bl j => cases ry; exact PySem.EqMixed.eq_str_bool (fin_bl I q (by simp))
    | int j => obtain ⟨t', rfl⟩ := ry; exact PySem.EqMixed.eq_str_int (fin_bl I q (by simp))
    | str j => obtain ⟨t', rfl⟩ := ry; exact eq_str (fin_bl I q dec_str)
    | _ => exact absurd (show false = true from hs) Bool.false_ne_true
  | byt i =>
    obtain ⟨t, rfl⟩ := rx
    cases y with
    | byt j => obtain ⟨t', rfl⟩ := ry; exact PySem.W.eq_bytes (fin_bl I q dec_byt)
    | _ => exact absurd (show false = true from hs) Bool.false_ne_true
  | _ => cases y <;> exact absurd (show false = true from hs) Bool.false_ne_true
theorem op_ne : OpR X (compareOp .NotEq) rNe := by
  intro pins s σ H x y v u Q I rx ry h
  obtain ⟨hs, q⟩ := h
  cases x with
  | non =>
    cases rx
    cases y with
    | non => cases ry; exact PySem.EqNone.ne_none_none (fin_bl I q (by simp))
    | bl j => cases ry; exact PySem.EqNone.ne_none_bool (fin_bl I q (by simp))
    | int j => obtain ⟨t', rfl⟩ := ry; exact PySem.EqNone.ne_none_int (fin_bl I q (by simp))
    | str j => obtain ⟨t', rfl⟩ := ry; exact PySem.EqNone.ne_none_str (fin_bl I q (by simp))
    | _ => exact absurd (show false = true from hs) Bool.false_ne_true
  | bl i =>
    cases rx
    cases y with
    | non => cases ry; exact PySem.EqNone.ne_bool_none (fin_bl I q (by simp))
    | bl j => cases ry; exact ne_bool (fin_bl I q (congrArg not dec_bl))
    | str j => obtain ⟨t', rfl⟩ := ry; exact PySem.EqMixed.ne_bool_str (fin_bl I q (by simp))
    | _ => exact absurd (show false = true from hs) Bool.false_ne_true
  | int i =>
    obtain ⟨t, rfl⟩ := rx
    cases y with
    | non => cases ry; exact PySem.EqNone.ne_int_none (fin_bl I q (by simp))
    | int j => obtain ⟨t', rfl⟩ := ry; exact ne_int (fin_bl I q (congrArg not dec_int))
    | str j => obtain ⟨t', rfl⟩ := ry; exact PySem.EqMixed.ne_int_str (fin_bl I q (by simp))
    | _ => exact absurd (show false = true from hs) Bool.false_ne_true
  | str i =>
    obtain ⟨t, rfl⟩ := rx
    cases y with
    | non => cases ry; exact PySem.EqNone.ne_str_none (fin_bl I q (by simp))
    | bl j => cases ry; exact PySem.EqMixed.ne_str_bool (fin_bl I q (by simp))
    | int j => obtain ⟨t', rfl⟩ := ry; exact PySem.EqMixed.ne_str_int (fin_bl I q (by simp))
    | str j => obtain ⟨t', rfl⟩ := ry; exact ne_str (fin_bl I q (congrArg not dec_str))
    | _ => exact absurd (show false = true from hs) Bool.false_ne_true
  | byt i =>
    obtain ⟨t, rfl⟩ := rx
    cases y with
    | byt j => obtain ⟨t', rfl⟩ := ry; exact PySem.W.ne_bytes (fin_bl I q (congrArg not dec_byt))
    | _ => exact absurd (show false = true from hs) Bool.false_ne_true
  | _ => cases y <;> exact absurd (show false = true from hs) Bool.false_ne_true
theorem op_lt : OpR X (compareOp .Lt) (rI0 fun i j => .bl (decide (i < j))) := opB0 fun _ _ _ _ _ _ _ q => lt_int q
theorem op_le : OpR X (compareOp .LtE) (rI0 fun i j => .bl (decide (i ≤ j))) := opB0 fun _ _ _ _ _ _ _ q => le_int q
theorem op_gt : OpR X (compareOp .Gt) (rI0 fun i j => .bl (decide (j < i))) := opB0 fun _ _ _ _ _ _ _ q => gt_int q
theorem nomark (b : Expr) {op : CmpOp} (h : op ≠ .In := by decide) (h2 : op ≠ .NotIn := by decide) : behindInMarks op b = false := by
  have e1 : (op == CmpOp.In) = false := by cases op <;> first | rfl | exact absurd rfl h
  have e2 : (op == CmpOp.NotIn) = false := by cases op <;> first | rfl | exact absurd rfl h2
  cases b <;> simp [behindInMarks, e1, e2]
theorem pe_cmpR {op : CmpOp} {r : R2} (ho : OpR X (compareOp op) r) (ha : PE X a ta) (hb : PE X b tb) (hm : behindInMarks op b = false) : PE X (.Compare a [op] [b] pos) (tOp r ta tb) := by
  intro pins s σ H Q I h
  exact wpAny_Compare1 (binT ha hb I h fun v u s2 x y H2 I2 rx ry q => ho pins s2 σ H2 x y v u Q I2 rx ry q) hm
def tTest (t : TE) : TT := fun σ H Q => t σ H fun x H' => ∃ k, x = .bl k ∧ Q k H'
theorem pt_cmpR {op : CmpOp} {r : R2} (ho : OpR X (compareOp op) r) (ha : PE X a ta) (hb : PE X b tb) (hm : behindInMarks op b = false) : PT X (.Compare a [op] [b] pos) (tTest (tOp r ta tb)) := by
  intro pins s σ H Q I h
  refine wpAny_isTrue_Compare1 (thn (ha pins s σ H _ I h) fun v s1 ⟨x, H1, I1, r1, q1⟩ => thn (hb pins s1 σ H1 _ I1 q1) fun u s2 ⟨y, H2, I2, r2, q2⟩ =>
    thn (ho pins s2 σ H2 x y v u _ I2 r1 r2 q2) fun c s3 ⟨z, H3, I3, r3, k, e, q3⟩ => ?_) hm
  subst e
  cases r3
  exact wpAny_truthy_bool ⟨H3, I3, q3⟩
def tChain (r r' : R2) (ta tb tc : TE) : TE := fun σ H Q => ta σ H fun x H1 => tb σ H1 fun y H2 => r x y H2 fun z H3 => ∃ k, z = .bl k ∧
  (if k = true then tc σ H3 fun w' H4 => r' y w' H4 Q else Q (.bl false) H3)
theorem pe_chain {op op' : CmpOp} {r r' : R2} (ho : OpR X (compareOp op) r) (ho' : OpR X (compareOp op') r') (ha : PE X a ta) (hb : PE X b tb) (hc : PE X c tc)
    (hm : lastMarks [op, op'] [b, c] = false := by with_unfolding_all rfl) : PE X (.Compare a [op, op'] [b, c] pos) (tChain r r' ta tb tc) := by
  intro pins s σ H Q I h
  refine Compare_chain (thn (ha pins s σ H _ I h) fun v s1 ⟨x, H1, I1, r1, q1⟩ => chain_link (thn (hb pins s1 σ H1 _ I1 q1) fun u s2 ⟨y, H2, I2, r2, q2⟩ =>
    thn (ho pins s2 σ H2 x y v u _ I2 r1 r2 q2) fun d s3 ⟨z, H3, I3, r3, k, e, q3⟩ => ?_)) hm
  subst e
  cases r3
  refine wpAny_truthy_bool ?_
  cases k with
  | false => exact ite_ff ⟨.bl false, H3, I3, rfl, q3⟩
  | true => exact ite_tt (chain_last (thn (hc pins s3 σ H3 _ I3 q3) fun w' s4 ⟨z', H4, I4, r4, q4⟩ => ho' pins s4 σ H4 y z' u w' Q I4 r2 r4 q4))
theorem line63 : (sizeLine : Nat) < 2 ^ 63 := by rw [sizeLine_eq]; decide
theorem vals1 {x : V} {us : List Value} (r : Vals [x] us) : ∃ u, us = [u] ∧ RelV x u := by
  cases r with
  | cons r1 r2 => cases r2; exact ⟨_, rfl, r1⟩
end
end L2
namespace L2
open PySem PySem.Spec PyProof.Rows
structure ObjM (h : Heap) (x dx C : Addr) (mA : Str → Option Value) : Prop where
  obj : h.get? x = some (PySem.W.instObj C dx)
  ns : h.Ns1 dx mA
  ne : dx ≠ x
theorem lookIn_ns {h : Heap} {dx : Addr} {mA : Str → Option Value} (n : h.Ns1 dx mA) : ∃ od, h.get? dx = some od ∧ ∀ name, PySem.W.lookIn name od = some (mA name) := by
  obtain ⟨o, es, ep, ho, hd, hk, _, hm⟩ := n
  refine ⟨o, ho, fun name => ?_⟩
  have e := hm name
  unfold nsFind findBy at e
  rw [← Array.find?_toList] at e
  unfold PySem.W.lookIn
  rw [hd]
  dsimp only
  split
  · rename_i y q
    rw [q] at e
    exact congrArg some e
  · rename_i q
    rw [q] at e
    have a : es.toList.any (·.refKey) = false := by
      rw [List.any_eq_false]
      intro y hy
      obtain ⟨z, t, hkey⟩ := hk y (Array.mem_toList_iff.mp hy)
      simp [DictEntry.refKey, hkey]
    have a' : ¬ es.toList.any (·.refKey) = true := by rw [a]; exact Bool.false_ne_true
    rw [if_neg a']
    exact congrArg some e
theorem ObjM.look {h : Heap} {x dx C : Addr} {mA : Str → Option Value} (I : ObjM h x dx C mA) : ∃ od, PySem.W.InstAt h x (PySem.W.instObj C dx) C (some od) ∧ ∀ name, PySem.W.lookIn name od = some (mA name) :=
  let ⟨od, ho, hl⟩ := lookIn_ns I.ns
  ⟨od, ⟨I.obj, rfl, rfl, ho⟩, hl⟩
section
variable {prog : Program} {w : World} {A : Around} {E : Value → Shared → Prop} {s : Shared} {K : PySem.W.Frag} {x dx C f : Addr} {mA : Str → Option Value} {name : Str} {v : Value}
end
theorem RelO.some_of {v : V} {o : Option Value} (r : RelO (some v) o) : ∃ u, o = some u ∧ RelV v u := by
  cases o with
  | none => exact (show False from r).elim
  | some u => exact ⟨u, rfl, r⟩
section
variable {P : Program} {w : World} {H H' : Hp} {h h' : Heap} {a C dx : Addr} {fs fs' : List (Str × V)}
theorem ins_get (hok : HOk P w H h) (e : H a = some (.ins C dx fs)) : ∃ mA, ObjM h a dx C mA ∧ (∀ f, RelO (fs.lookup f) (mA f)) ∧ PySem.Within mA (fs.map (·.1)) ∧ fs.length ≤ 1000 ∧ H dx = some (.own a) := by
  obtain ⟨d, z, ne, ob, mA, n, r, q⟩ := (show ObjOk P w H h a (.ins C dx fs) from hok a _ e)
  exact ⟨mA, ⟨ob, n, ne⟩, r, q, z, d⟩
end
structure Cls (K : PySem.W.Frag) (C : Addr) : Prop where
  pg : PySem.W.plainGet K C Str.empty = true
  hd : PySem.W.hasDictIn K C = true
  po : PySem.W.plainOver K C = true
  sa : PySem.W.findIn K (.ref C) "__setattr__" = some (some (.builtin "object.__setattr__"))
theorem Cls.get {K : PySem.W.Frag} {C : Addr} (c : Cls K C) (f : Str) : PySem.W.plainGet K C f = true := c.pg
section
variable {X : Cx} {pins : List (Addr × Obj)} {σ : St} {H : Hp} {s : Shared} {a C dx : Addr} {fs : List (Str × V)} {f : Str} {v : V} {A : Around} {E : Value → Shared → Prop}
end
section
variable {X : Cx} {o e value : Expr} {f : Str} {pos pos' tpos : Pos} {ta tv : TE}
end
section
variable {X : Cx} {pins : List (Addr × Obj)} {σ : St} {H : Hp} {s : Shared} {A : Around} {E : Value → Shared → Prop} {Q : Value → Shared → Prop} {c : Value} {b : Bool}
inductive TyOf (K : PySem.W.Frag) (H : Hp) : V → Value → Prop where
  | non : TyOf K H .non (.type "NoneType")
  | bl (x : Bool) : TyOf K H (.bl x) (.type "bool")
  | int (i : Int) : TyOf K H (.int i) (.type "int")
  | str (x : Str) : TyOf K H (.str x) (.type "str")
  | flt (x : UInt64) : TyOf K H (.flt x) (.type "float")
  | lst {a : Addr} {xs : List V} (e : H a = some (.lst xs)) : TyOf K H (.ref a) (.type "list")
  | frz {a : Addr} {o : Obj} {xs : List V} (e : H a = some (.frz o (.lst xs))) : TyOf K H (.ref a) (.type "list")
  | tup {a : Addr} {xs : List V} (e : H a = some (.tup xs)) : TyOf K H (.ref a) (.type "tuple")
  | dK {a : Addr} {kvs : List (Key × V)} (e : H a = some (.dK kvs)) : TyOf K H (.ref a) (.type "dict")
  | dT {a : Addr} {kvs : List (List Key × V)} (e : H a = some (.dT kvs)) : TyOf K H (.ref a) (.type "dict")
  | ins {a C dx : Addr} {fs : List (Str × V)} (e : H a = some (.ins C dx fs)) (cl : Cls K C) (ha : PySem.W.findIn K (.ref C) "__class__" = some (some (.builtin "object.__class__")))
      (hn : PySem.W.specialIn K (.builtin "object.__class__") "__get__" = some (some (.builtin "getset_descriptor.__get__"))) (htk : PySem.W.takesIn K (.builtin "object.__class__") = some true)
      (hm : PySem.W.mroIn K C (.type "object") = some true) : TyOf K H (.ref a) (.ref C)
theorem isinst_ok {x : V} {u t : Value} (I : Inv X pins σ H s) (rx : RelV x u) (ty : TyOf X.K H x t) (e : PySem.W.kitOne X.K t c = some b) (h : ∀ tk, Q (.bool b) { s with toks := tk }) :
    wpAny (model X.prog X.w) A (call (.builtin "isinstance") [u, c]) Q E s := by
  cases ty with
  | non => cases (show u = Value.none from rx); exact PySem.W.kia_one PySem.W.kitx_none I.kIn True.intro e (fun z => nomatch z) h
  | bl y => cases (show u = Value.bool y from rx); exact PySem.W.kia_one PySem.W.kitx_bool I.kIn True.intro e (fun z => nomatch z) h
  | int i => obtain ⟨t, q⟩ := (show ∃ t, u = Value.int i t from rx); cases q; exact PySem.W.kia_one PySem.W.kitx_int I.kIn True.intro e (fun z => nomatch z) h
  | str y => obtain ⟨t, q⟩ := (show ∃ t, u = Value.str y t from rx); cases q; exact PySem.W.kia_one PySem.W.kitx_str I.kIn True.intro e (fun z => nomatch z) h
  | flt y => obtain ⟨t, q⟩ := (show ∃ t, u = Value.float y t from rx); cases q; exact PySem.W.kia_one PySem.W.kitx_float I.kIn True.intro e (fun z => nomatch z) h
  | @lst a xs ea =>
    cases (show u = Value.ref a from rx)
    obtain ⟨_, _, n, _, h1⟩ := (show ObjOk X.prog X.w H s.heap a (.lst xs) from I.hok a _ ea)
    exact PySem.W.kia_one PySem.W.kitx_list I.kIn ⟨_, h1, rfl⟩ e (fun z => nomatch z) h
  | @frz a ob xs ea =>
    cases (show u = Value.ref a from rx)
    obtain ⟨_, _, _, n, _, h1⟩ := (show ObjOk X.prog X.w H s.heap a (.frz ob (.lst xs)) from I.hok a _ ea)
    exact PySem.W.kia_one PySem.W.kitx_list I.kIn ⟨_, h1, rfl⟩ e (fun z => nomatch z) h
  | @tup a xs ea =>
    cases (show u = Value.ref a from rx)
    obtain ⟨_, _, _, p⟩ := (show ObjOk X.prog X.w H s.heap a (.tup xs) from I.hok a _ ea)
    obtain ⟨o, h1, h2, _⟩ := p
    exact PySem.W.kia_one PySem.W.kitx_tuple I.kIn ⟨o, h1, h2⟩ e (fun z => nomatch z) h
  | @dK a kvs ea =>
    cases (show u = Value.ref a from rx)
    obtain ⟨_, _, vs, _, p⟩ := (show ObjOk X.prog X.w H s.heap a (.dK kvs) from I.hok a _ ea)
    obtain ⟨o, es, ep, h1, h2, _⟩ := p
    exact PySem.W.kia_one PySem.W.kitx_dict I.kIn ⟨o, h1, h2.1⟩ e (fun z => nomatch z) h
  | @dT a kvs ea =>
    cases (show u = Value.ref a from rx)
    obtain ⟨_, _, xs, _, o, es, ep, h1, h2, _⟩ := (show ObjOk X.prog X.w H s.heap a (.dT kvs) from I.hok a _ ea)
    exact PySem.W.kia_one PySem.W.kitx_dict I.kIn ⟨o, h1, h2.1⟩ e (fun z => nomatch z) h
  | @ins a C dx fs ea cl ha hn htk hm =>
    cases (show u = Value.ref a from rx)
    obtain ⟨mA, O, _⟩ := ins_get I.hok ea
    obtain ⟨od, J, _⟩ := O.look
    exact PySem.W.kia_one (PySem.W.kitx_own (cl.get _) cl.hd ha hn htk hm) I.kIn J e (fun z => nomatch z) h
end
end L2
namespace L2
open PySem PySem.Spec PyProof.Rows
structure Room (k : Nat) (A : Around) : Prop where
  hd : A.handled = none
  dp : A.depth + 3 * k + 5 < recursionLimit
  un : A.units + 16 * k + 200 < cLine
theorem Room.mono {j k : Nat} {A : Around} (r : Room k A) (h : j ≤ k) : Room j A := ⟨r.hd, by have := r.dp; omega, by have := r.un; omega⟩
theorem Room.deeper {k : Nat} {A : Around} (r : Room (k + 1) A) (env : Env) : Room k (A.deeper env) :=
  ⟨r.hd, by have := r.dp; show A.depth + 1 + 3 * k + 5 < _; omega, by have := r.un; show A.units + 3 + 16 * k + 200 < _; omega⟩
theorem Room.depth {k : Nat} {A : Around} (r : Room k A) : A.depth < recursionLimit := by have := r.dp; omega
theorem Room.units {k : Nat} {A : Around} (r : Room k A) : A.units + 64 < cLine := by have := r.un; omega
def tNil : TA := fun _ H Q => Q [] H
def tCons (ta : TE) (tr : TA) : TA := fun σ H Q => ta σ H fun x H1 => tr σ H1 fun xs H2 => Q (x :: xs) H2
section
variable {X : Cx} {e : Expr} {es : List Expr} {te : TE} {t : TA} {pos : Pos}
theorem pa_nil : PA X [] tNil := fun _ _ _ _ H Q I h => Calls.spliced_nil ⟨[], H, I, .nil, h⟩
theorem pa_cons (ha : PE X e te) (hr : PA X es t) (hs : starEach (e :: es) X.env = (false, eval e X.env) :: starEach es X.env := by rfl) : PA X (e :: es) (tCons te t) := by
  intro pos pins s σ H Q I h
  rw [hs]
  show wpAny _ _ (spliced ((false, eval e X.env) :: backTo pos (starEach es X.env))) _ _ s
  refine Calls.spliced_cons (thn (ha pins s σ H _ I h) fun u s1 hm0 => ?_)
  obtain ⟨x, H1, I1, r1, q1⟩ := hm0
  refine thn (hr pos pins s1 σ H1 _ I1 q1) fun us s2 hm0 => ?_
  obtain ⟨xs, H2, I2, r2, q2⟩ := hm0
  exact ⟨x :: xs, H2, I2, .cons r1 r2, q2⟩
def tTup (t : TA) : TE := fun σ H Q => t σ H fun xs H1 => xs.length ≤ sizeLine ∧ ∀ p, H1 p = none → Q (.ref p) (upd H1 p (.tup xs))
def tLst (t : TA) : TE := fun σ H Q => t σ H fun xs H1 => xs.length ≤ sizeLine ∧ ∀ p, H1 p = none → Q (.ref p) (upd H1 p (.lst xs))
theorem pe_tup {x1} (h : PA X es t) : PE X (.Tuple es x1 pos) (tTup t) := by
  intro pins s σ H Q I hq
  refine wpAny_Tuple_spliced (thn (h pos pins s σ H _ I hq) fun us s1 hm0 => ?_)
  obtain ⟨xs, H1, I1, r, z, q⟩ := hm0
  refine ⟨by rw [← r.length]; exact z, ?_⟩
  have hf : H1 s1.heap.objs.size = none := I1.hok.fresh (Nat.le_refl _)
  refine ⟨.ref s1.heap.objs.size, upd H1 s1.heap.objs.size (.tup xs), I1.laid (t' := s1.toks) (fun b u e => Heap.get?_push_of_some _ e) (Nat.le_refl _) ?_, rfl, q _ hf⟩
  exact ⟨z, us, r, ⟨_, Heap.get?_push_size _ rfl, rfl, _, rfl⟩⟩
theorem pe_lst (h : PA X es t) : PE X (.List es pos) (tLst t) := by
  intro pins s σ H Q I hq
  refine wpAny_List_spliced (thn (h pos pins s σ H _ I hq) fun us s1 hm0 => ?_)
  obtain ⟨xs, H1, I1, r, z, q⟩ := hm0
  refine ⟨by rw [← r.length]; exact z, ?_⟩
  have hf : H1 s1.heap.objs.size = none := I1.hok.fresh (Nat.le_refl _)
  refine ⟨.ref s1.heap.objs.size, upd H1 s1.heap.objs.size (.lst xs), I1.laid (t' := s1.toks) (fun b u e => Heap.get?_push_of_some _ e) (Nat.le_refl _) ?_, rfl, q _ hf⟩
  exact ⟨z, us, 0, r, Heap.get?_push_size _ rfl⟩
end
abbrev Sp := List V → Hp → VK → XK → Prop
abbrev CXT := List Env → Hp → Shared → XK → Value → Shared → Prop
structure Env0 (P : Program) (w : World) (K : PySem.W.Frag) (mg : Str → Option Value) (base : Heap) (A : Around) (outer : List Env) (s : Shared) (H : Hp) : Prop where
  frames : A.frames = some outer
  mod : Mod K mg base
  bs : ∀ b o, base.get? b = some o → s.heap.get? b = some o ∧ H b = none
  bsz : base.objs.size ≤ s.heap.objs.size
  funs : s.heap.FunFrames base outer
  frf : ∀ b ∈ frs outer, H b = none
  hok : HOk P w H s.heap
  bare : AllBare s.gens
def CE (outer : List Env) (P : Program) (w : World) (H : Hp) (s : Shared) (Q : VK) (u : Value) (s' : Shared) : Prop :=
  ∃ v H', s'.os = s.os ∧ AllBare s'.gens ∧ Un (frs outer) [] H H' s.heap s'.heap ∧ HOk P w H' s'.heap ∧ RelV v u ∧ Q v H'
def CR (CX : CXT) (outer : List Env) (P : Program) (w : World) (H : Hp) (s : Shared) (Q : VK) (E : XK) (r : Result) (s' : Shared) : Prop :=
  match r with
  | .ok (.ret u) => CE outer P w H s Q u s'
  | .ok _ => False
  | .error e => CX outer H s E e s'
structure FnOk (P : Program) (w : World) (K : PySem.W.Frag) (mg : Str → Option Value) (base : Heap) (CX : CXT) (k : Nat) (f : Addr) (fd : FuncData) (ps : List Str) (sp : Sp) : Prop where
  len : ∀ vs H Q E, sp vs H Q E → vs.length = ps.length
  run : ∀ (A : Around) (outer : List Env) (s : Shared) (H : Hp) (args : Args) (us : List Value) (vs : List V) (Q : VK) (E : XK), Room k A → Env0 P w K mg base A outer s H → BindsTo s fd args (ps.zip us) → Vals vs us → sp vs H Q E →
    codeAny (model P w) A (.call (.ref f) args) (CR CX outer P w H s Q E) s
section
variable {X : Cx} {pins : List (Addr × Obj)} {σ : St} {H : Hp} {s s' : Shared}
theorem Inv.env0 (I : Inv X pins σ H s) : Env0 X.prog X.w X.K X.mg X.base X.A X.stack s H :=
  ⟨I.ok.frames, I.ok.mod, I.bs, Nat.le_trans I.ok.bsz I.sz, I.stack, I.stkFree, I.hok, I.bare⟩
theorem Inv.after {Q : VK} {u : Value} (I : Inv X pins σ H s) (h : CE X.stack X.prog X.w H s Q u s') : EP X pins σ Q u s' := by
  obtain ⟨v, H', os, bare, un, hok, r, q⟩ := h
  obtain ⟨hh, g, d, t, os'⟩ := s'
  obtain rfl : os' = s.os := os
  exact ⟨v, H', I.call (h' := hh) (g' := g) (d' := d) (t' := t) (ch := []) un hok bare (fun b z => absurd z (by simp)), r, q⟩
end
def tCall (sp : Sp) (dvs : List V) (E : XK) (t : TA) : TE := fun σ H Q => t σ H fun vs H1 => sp (vs ++ dvs) H1 Q E
def Binds (K : PySem.W.Frag) (fd : FuncData) (ps : List Str) (ds : List Value) : Prop :=
  ∀ (s : Shared) (us : List Value), K.In s.heap → (us ++ ds).length = ps.length → BindsTo s fd ⟨us, []⟩ (ps.zip (us ++ ds))
theorem Binds.all {K : PySem.W.Frag} {fd : FuncData} {ps : List Str} (h : ∀ us : List Value, us.length = ps.length → bindArgs fd ⟨us, []⟩ = pure (ps.zip us)) : Binds K fd ps [] := fun s us _ hl => by
  rw [List.append_nil] at hl ⊢
  exact .of_eq (h us hl)
def Passes (CX : CXT) (X : Cx) (E : XK) : Prop := ∀ (pins : List (Addr × Obj)) (σ : St) (H : Hp) (s : Shared) (e : Value) (s' : Shared), Inv X pins σ H s → CX X.stack H s E e s' → X.xe e s'
section
variable {X : Cx} {CX : CXT} {k : Nat} {f C : Addr} {fd : FuncData} {ps : List Str} {sp : Sp} {dvs : List V} {ds : List Value} {E : XK} {x m : Str} {p pos apos : Pos} {e o : Expr} {es : List Expr} {ta : TE} {t : TA}
theorem run_fn {pins : List (Addr × Obj)} {σ : St} {H : Hp} {s : Shared} {Q : VK} {us : List Value} {vs : List V} (F : FnOk X.prog X.w X.K X.mg X.base CX k f fd ps sp) (hr : Room k X.A) (hb : Binds X.K fd ps ds) (hd : Vals dvs ds) (hx : Passes CX X E)
    (I : Inv X pins σ H s) (r : Vals vs us) (h : sp (vs ++ dvs) H Q E) : wpAny (model X.prog X.w) X.A (call (.ref f) us) (EP X pins σ Q) X.xe s := by
  have r2 : Vals (vs ++ dvs) (us ++ ds) := r.append hd
  have hl : (us ++ ds).length = ps.length := by rw [← r2.length]; exact F.len _ _ _ _ h
  refine wpAny_call (codeAny_mono (F.run X.A X.stack s H ⟨us, []⟩ (us ++ ds) (vs ++ dvs) Q E hr I.env0 (hb s us I.kIn hl) r2 h) fun r s' hq => ?_)
  cases r with
  | error e => exact hx pins σ H s e s' I hq
  | ok fl =>
    cases fl with
    | ret u => exact I.after hq
    | next => exact False.elim hq
    | brk => exact False.elim hq
    | cont => exact False.elim hq
theorem pe_call (F : FnOk X.prog X.w X.K X.mg X.base CX k f fd ps sp) (hr : Room k X.A) (hg : Gl X x) (hm : X.mg x = some (.ref f)) (hk : PySem.W.keepIn X.K (.ref f) = true) (hb : Binds X.K fd ps ds) (hd : Vals dvs ds) (hx : Passes CX X E)
    (ha : PA X (e :: es) t) (hdb : (x == ("__debug__" : Str)) = false := by decide) (he : starEach (e :: es) X.env = (false, eval e X.env) :: starEach es X.env := by rfl) (hpl : (backTo pos (starEach es X.env)).any (·.1) = false := by rfl) :
    PE X (.Call (.Name x p) (e :: es) [] pos) (tCall sp dvs E t) := by
  intro pins s σ H Q I h
  refine wpAny_Call_Name_kw (ld_glob I hg hm ?_ hdb)
  refine PySem.W.callWith_K (h₀ := X.base) I.ok.mod.kin hk (thn (ha pos pins s σ H _ I h) fun us s1 hm0 => ?_) he hpl
  obtain ⟨vs, H1, I1, r, q⟩ := hm0
  refine ⟨I1.kIn, ?_⟩
  exact run_fn F hr hb hd hx I1 r q
end
section
variable {X : Cx} {CX : CXT} {k : Nat} {f C : Addr} {fd : FuncData} {ps ks : List Str} {sp : Sp} {E : XK} {x m : Str} {p pos apos kpos : Pos} {e o : Expr} {es : List Expr} {kws : List Keyword} {te ta : TE} {t tk : TA} {nm : Option Str}
variable {g : List Value → List Value → List Value} {gV : List V → List V → List V}
end
structure FnScope (N P : List Str) (sc : Scope) : Prop where
  kind : sc.kind = .function
  co : sc.isCoroutine = false
  gen : sc.isGenerator = false
  nd : N.Nodup
  pre : N.take P.length = P
  par : ∀ x ∈ P, sc.names.lookup x = some .local ∨ sc.names.lookup x = some .cell
  nofree : ∀ y ∈ sc.names, y.2 ≠ .free
theorem bindL_out {kindOf : Str → Option NameKind} {x : Str} : ∀ {binds : List (Str × Value)} {m : Str → Option Value}, (∀ v, (x, v) ∉ binds) → bindL kindOf binds m x = m x
  | [], _, _ => rfl
  | (n, v) :: r, m, h => by
    unfold bindL
    rw [bindL_out fun w hw => h w (List.mem_cons_of_mem _ hw)]
    split
    · have : x ≠ n := by rintro rfl; exact h v List.mem_cons_self
      simp [this]
    · rfl
theorem bindC_out {kindOf : Str → Option NameKind} {x : Str} : ∀ {binds : List (Str × Value)} {m : Str → Option Value}, (∀ v, (x, v) ∉ binds) → bindC kindOf binds m x = m x
  | [], _, _ => rfl
  | (n, v) :: r, m, h => by
    unfold bindC
    rw [bindC_out fun w hw => h w (List.mem_cons_of_mem _ hw)]
    split
    · rfl
    · have : x ≠ n := by rintro rfl; exact h v List.mem_cons_self
      simp [this]
theorem bindL_get {kindOf : Str → Option NameKind} {x : Str} {v : Value} : ∀ {P : List Str} {vs : List Value} {i : Nat} {m : Str → Option Value}, P.Nodup → P[i]? = some x → vs[i]? = some v → kindOf x = some .local →
    bindL kindOf (P.zip vs) m x = some v
  | [], _, _, _, _, h, _, _ => by simp at h
  | _ :: _, [], _, _, _, _, h, _ => by simp at h
  | p :: P, w :: vs, 0, m, nd, h1, h2, hk => by
    simp at h1 h2; subst h1; subst h2
    show bindL kindOf ((p, w) :: P.zip vs) m p = _
    unfold bindL
    rw [bindL_out fun v hv => (List.nodup_cons.mp nd).1 (List.of_mem_zip hv).1, if_pos hk]
    simp
  | p :: P, w :: vs, i + 1, m, nd, h1, h2, hk => by
    show bindL kindOf ((p, w) :: P.zip vs) m x = _
    unfold bindL
    exact bindL_get (i := i) (List.nodup_cons.mp nd).2 (by simpa using h1) (by simpa using h2) hk
theorem bindC_get {kindOf : Str → Option NameKind} {x : Str} {v : Value} : ∀ {P : List Str} {vs : List Value} {i : Nat} {m : Str → Option Value}, P.Nodup → P[i]? = some x → vs[i]? = some v → kindOf x ≠ some .local →
    bindC kindOf (P.zip vs) m x = some v
  | [], _, _, _, _, h, _, _ => by simp at h
  | _ :: _, [], _, _, _, _, h, _ => by simp at h
  | p :: P, w :: vs, 0, m, nd, h1, h2, hk => by
    simp at h1 h2; subst h1; subst h2
    show bindC kindOf ((p, w) :: P.zip vs) m p = _
    unfold bindC
    rw [bindC_out fun v hv => (List.nodup_cons.mp nd).1 (List.of_mem_zip hv).1, if_neg hk]
    simp
  | p :: P, w :: vs, i + 1, m, nd, h1, h2, hk => by
    show bindC kindOf ((p, w) :: P.zip vs) m x = _
    unfold bindC
    exact bindC_get (i := i) (List.nodup_cons.mp nd).2 (by simpa using h1) (by simpa using h2) hk
def start (N : List Str) (vs : List V) : St := vs.map some ++ List.replicate (N.length - vs.length) none
def cxOf (CX : CXT) (P : Program) (w : World) (K : PySem.W.Frag) (mg : Str → Option Value) (base : Heap) (N : List Str) (qual : Str) (scope : Scope) (f : Addr) (cd : Value) (A : Around) (outer : List Env) (s : Shared) (H : Hp) (E : XK) : Cx where
  prog := P
  w := w
  K := K
  mg := mg
  base := base
  A := A.deeper (envOfC qual scope s.heap.objs.size f cd)
  N := N
  s₀ := s
  H₀ := H
  env := envOfC qual scope s.heap.objs.size f cd
  outer := outer
  stack := envOfC qual scope s.heap.objs.size f cd :: outer
  ex := []
  calm := true
  fn := fun _ => true
  pn := []
  xe := fun e s' => wpAny (model P w) (A.deeper (envOfC qual scope s.heap.objs.size f cd)) (leaving (envOfC qual scope s.heap.objs.size f cd) e) (fun _ s'' => CX outer H s E e s'') (fun e' s'' => CX outer H s E e' s'') s'
theorem cell_has {sc : Scope} {n : Nat} {x : Str} (h : sc.names.lookup x = some .cell) : ∃ c, (cellsFrom n sc.names []).lookup x = some c := by
  have q := PySem.W.cellsFrom_some sc.names n [] (.inl h)
  exact Option.isSome_iff_exists.mp q
theorem inv_start {CX : CXT} {P : Program} {w : World} {K : PySem.W.Frag} {mg : Str → Option Value} {base : Heap} {N ps : List Str} {qual : Str} {scope : Scope} {f : Addr} {cd : Value} {A : Around} {outer : List Env} {s s1 : Shared} {H : Hp} {E : XK} {us : List Value} {vs : List V}
    (S : FnScope N ps scope) (hd : A.handled = none) (e0 : Env0 P w K mg base A outer s H) (hl : vs.length = ps.length) (r : Vals vs us)
    (x : InCallC s s.heap.objs.size (bindL (envOfC qual scope s.heap.objs.size f cd).kindOf (ps.zip us) fun _ => none) (cellsFrom (s.heap.objs.size + 1) scope.names []) (bindC (envOfC qual scope s.heap.objs.size f cd).kindOf (ps.zip us) fun _ => none) s1) :
    Inv (cxOf CX P w K mg base N qual scope f cd A outer s H E) [] (start N vs) H s1 := by
  have hpl : ps.length ≤ N.length := by have := congrArg List.length S.pre; rw [List.length_take] at this; omega
  obtain ⟨h1, tk, rfl, hk⟩ := x.done
  have noA : ∀ b : Addr, b ∉ (cxOf CX P w K mg base N qual scope f cd A outer s H E).ex := fun b z => absurd (show b ∈ ([] : List Addr) from z) (by simp)
  refine ⟨⟨e0.mod, S.kind, rfl, rfl, Nat.le_refl _, fun y z c h1 h2 => ?_, fun y hy => ?_, fun y c _ h => ?_, fun _ => hd, Around.frames_deeper e0.frames, .inr ⟨rfl, rfl⟩, fun b z => absurd z (noA b), e0.bs, e0.bsz, fun b _ _ => noA b, fun b z => absurd z (noA b), e0.funs, e0.frf⟩,
    rfl, e0.bare, Un.kept hk, ⟨_, x.toInCall.ns, fun i y v h1 h2 h3 => ?_⟩, fun y c h => ⟨_, x.cell y c h⟩, e0.hok.fresh (Nat.le_refl _), fun y c h => ?_, fun p hp => absurd (show p ∈ ([] : List (Addr × Obj)) from hp) (by simp), e0.hok.kept hk, ?_⟩
  · exact name_of_addr x.apart (PySem.mem_of_lookup h1) (PySem.mem_of_lookup h2)
  · have hy : scope.names.lookup y = some .cell ∨ scope.names.lookup y = some .free := hy
    rcases hy with hy | hy
    · exact cell_has hy
    · exact absurd rfl (S.nofree _ (PySem.mem_of_lookup hy))
  · exact Nat.le_of_lt (x.above y c (PySem.mem_of_lookup h))
  · have hi : i < vs.length := by
      unfold start at h2
      by_cases hi : i < vs.length
      · exact hi
      · rw [List.getElem?_append_right (by simpa using hi)] at h2
        rw [List.getElem?_replicate] at h2
        split at h2 <;> cases h2
    have ha : vs[i]? = some v := by
      unfold start at h2
      rw [List.getElem?_append_left (by simpa using hi), List.getElem?_map] at h2
      cases e : vs[i]? with
      | none => rw [e] at h2; cases h2
      | some a => rw [e] at h2; cases h2; rfl
    obtain ⟨u, hu, rv⟩ := r.get ha
    have hp : ps[i]? = some y := by
      rw [← S.pre, List.getElem?_take_of_lt (by omega)]; exact h1
    have ndP : ps.Nodup := by rw [← S.pre]; exact S.nd.sublist (List.take_sublist _ _)
    refine ⟨u, rv, ?_⟩
    rcases S.par y (List.mem_of_getElem? hp) with k | k
    · exact .inl ⟨k, bindL_get ndP hp hu k⟩
    · obtain ⟨c, e⟩ := cell_has (n := s.heap.objs.size + 1) k
      refine .inr ⟨.inl k, c, e, ?_⟩
      have q := x.cell y c e
      rw [bindC_get ndP hp hu (by show scope.names.lookup y ≠ _; rw [k]; decide)] at q
      exact q
  · exact e0.hok.fresh (Nat.le_of_lt (x.above y c (PySem.mem_of_lookup h)))
  · unfold start
    show _ = N.length
    rw [List.length_append, List.length_map, List.length_replicate]
    omega
theorem fn_of {CX : CXT} {P : Program} {w : World} {K : PySem.W.Frag} {mg : Str → Option Value} {base : Heap} {k : Nat} {f : Addr} {name qual : Str} {params : Arguments} {body : List Stmt} {scope : Scope} {dV kV doc pm cdv ct oc : Value} {an od : Option Addr}
    {osl : Array (Option Value)} {N ps : List Str} {sp : Sp} (lk : K.lookup f = some ⟨oc, od, .func (PySem.W.fnOf name qual params body scope dV kV doc pm an cdv ct), osl⟩) (hcd : PySem.W.codeIn K cdv qual = true) (S : FnScope N ps scope)
    (len : ∀ vs H Q E, sp vs H Q E → vs.length = ps.length)
    (hbody : ∀ (A : Around) (outer : List Env) (s : Shared) (H : Hp) (vs : List V) (Q : VK) (E : XK), Room k (A.deeper (envOfC qual scope s.heap.objs.size f cdv)) → sp vs H Q E →
      ∃ t, PSs (cxOf CX P w K mg base N qual scope f cdv A outer s H E) body t ∧ t { nx := fun _ H' => Q .non H', rt := Q } (start N vs) H) :
    FnOk P w K mg base CX (k + 1) f (PySem.W.fnOf name qual params body scope dV kV doc pm an cdv ct) ps sp := by
  refine ⟨len, fun A outer s H args us vs Q E hr e0 hb r hsp => ?_⟩
  have hl := len _ _ _ _ hsp
  have KX : K.In s.heap := e0.mod.kin.keeps fun b o e => (e0.bs b o e).1
  have lim : s.heap.NoLimit := e0.mod.nolimit.keeps fun b o e => (e0.bs b o e).1
  have hkind : ∀ y ∈ ps.zip us, scope.names.lookup y.1 = some .local ∨ (scope.names.lookup y.1 = some .cell ∧ ((cellsFrom (s.heap.objs.size + 1) scope.names []).lookup y.1).isSome = true) := fun ⟨n, v⟩ hy => by
    rcases S.par n (List.of_mem_zip hy).1 with q | q
    · exact .inl q
    · exact .inr ⟨q, PySem.W.cellsFrom_some _ _ _ (.inl q)⟩
  refine codeAny_call_function hr.depth (KX _ _ lk) rfl S.co S.gen rfl (PySem.W.codeRec_of KX hcd) (hb _ _ _ _ ?_)
  refine wpAny_newFunctionEnv_cells S.kind hkind fun env he s1 x => ?_
  subst he
  refine ⟨lim.keeps x.toInCall.keep, codeAny_func ?_⟩
  obtain ⟨t, ht, hq⟩ := hbody A outer s H vs Q E (hr.deeper _) hsp
  have I : Inv (cxOf CX P w K mg base N qual scope f cdv A outer s H E) [] (start N vs) H s1 := inv_start S hr.hd e0 hl r x
  refine wpAny_mono (ht [] s1 (start N vs) H _ I hq) (fun fl s' hs => ?_) fun e s' hs => hs
  have fin : ∀ {σ' : St} {H' : Hp} {v : V} {u : Value}, Inv (cxOf CX P w K mg base N qual scope f cdv A outer s H E) [] σ' H' s' → RelV v u → Q v H' → CE outer P w H s Q u s' :=
    fun {σ' H' v u} J rv q => ⟨v, H', J.os, J.bare, J.base, J.hok, rv, q⟩
  cases fl with
  | ret u =>
    obtain ⟨v, σ', H', J, rv, q⟩ := hs
    exact fin J rv q
  | next =>
    obtain ⟨σ', H', J, q⟩ := hs
    exact fin (v := V.non) (u := Value.none) J rfl q
  | brk =>
    obtain ⟨_, _, _, q⟩ := hs
    exact False.elim q
  | cont =>
    obtain ⟨_, _, _, q⟩ := hs
    exact False.elim q
end L2
namespace L2
open PySem PySem.Spec PyProof.Rows
section
variable {X : Cx} {x : Str} {p pos : Pos} {e : Expr} {es : List Expr} {t : TA} {id T : String} {r : List V → Hp → VK → Prop}
def tCB (r : List V → Hp → VK → Prop) (t : TA) : TE := fun σ H Q => t σ H fun vs H1 => r vs H1 Q
theorem pe_callB (hc : CallR X (.builtin id) r) (hg : Gl X x) (hm : X.mg x = none) (hv : bootBuiltins x = some (.builtin id)) (ha : PA X (e :: es) t) (hn : x ≠ "__name__" := by decide) (hdb : (x == ("__debug__" : Str)) = false := by decide)
    (he : starEach (e :: es) X.env = (false, eval e X.env) :: starEach es X.env := by rfl) (hpl : (backTo pos (starEach es X.env)).any (·.1) = false := by rfl) : PE X (.Call (.Name x p) (e :: es) [] pos) (tCB r t) := by
  intro pins s σ H Q I h
  refine wpAny_Call_Name_kw (ld_blt I hg hm hv ?_ hn hdb)
  refine PyProof.Rows.callWith_builtin1 (thn (ha pos pins s σ H _ I h) fun us s1 hm0 => ?_) he hpl
  obtain ⟨vs, H1, I1, r1, q1⟩ := hm0
  exact hc pins s1 σ H1 vs us Q I1 r1 q1
theorem pe_callTy (hc : CallR X (.type T) r) (hg : Gl X x) (hm : X.mg x = none) (hv : bootBuiltins x = some (.type T)) (ha : PA X (e :: es) t) (hn : x ≠ "__name__" := by decide) (hdb : (x == ("__debug__" : Str)) = false := by decide)
    (he : starEach (e :: es) X.env = (false, eval e X.env) :: starEach es X.env := by rfl) (hpl : (backTo pos (starEach es X.env)).any (·.1) = false := by rfl) : PE X (.Call (.Name x p) (e :: es) [] pos) (tCB r t) := by
  intro pins s σ H Q I h
  refine wpAny_Call_Name_kw (ld_blt I hg hm hv ?_ hn hdb)
  refine PyProof.Rows.callWith_type1 (thn (ha pos pins s σ H _ I h) fun us s1 hm0 => ?_) he hpl
  obtain ⟨vs, H1, I1, r1, q1⟩ := hm0
  exact hc pins s1 σ H1 vs us Q I1 r1 q1
end
end L2
namespace HT
open PySem PyProof.Rows
section
open PySem.SeqAt
open PySem.AutoSeq1 (wpAny_loadPart')
open PySem.MeetsSeq PySem.MeetsSeq2 PySem.MeetsSeq3
end
section
variable {prog : Program} {w : World} {A : Around} {E : Value → Shared → Prop} {s : Shared}
def sIx (n d : Nat) : Option Int → Nat
  | none => d
  | some v => if v < 0 then (v + (n : Int)).toNat else min v.toNat n
theorem sIx_none (n d : Nat) : sIx n d none = d := rfl
theorem sIx_nat (n d k : Nat) : sIx n d (some (k : Int)) = min k n := by
  show (if (k : Int) < 0 then ((k : Int) + (n : Int)).toNat else min (k : Int).toNat n) = min k n
  rw [if_neg (by omega), Int.toNat_natCast]
end
end HT
namespace L2
open PySem PySem.Spec PyProof.Rows
abbrev TO := St → Hp → (Option Int → Hp → Prop) → Prop
def PO (X : Cx) (e : Option Expr) (t : TO) : Prop :=
  ∀ (pins : List (Addr × Obj)) (s : Shared) (σ : St) (H : Hp) (Q : Option Int → Hp → Prop), Inv X pins σ H s → t σ H Q →
    wpAny (model X.prog X.w) X.A (evalPart e X.env) (fun u s' => ∃ o H', Inv X pins σ H' s' ∧ IsPart u o ∧ Q o H') X.xe s
def tNoPart : TO := fun _ H Q => Q none H
def tPart (t : TE) : TO := fun σ H Q => t σ H fun x H1 => ∃ i, x = .int i ∧ Q (some i) H1
theorem intsAre_of {ns : List Int} : ∀ {us : List Value}, Vals (ns.map V.int) us → IntsAre us ns := by
  induction ns with
  | nil => intro us r; rw [List.map_nil] at r; cases r; exact .nil
  | cons n ns ih =>
    intro us r
    rw [List.map_cons] at r
    cases r with
    | cons r1 r2 =>
      obtain ⟨t, e⟩ := r1
      subst e
      exact .cons n t (ih r2)
section
variable {X : Cx} {e : Expr} {te : TE} {lo hi : Option Expr} {tl th : TO} {pos p2 : Pos}
theorem po_none : PO X none tNoPart := by
  intro pins s σ H Q I h
  rw [evalPart_none]
  exact wpAny_pure ⟨none, H, I, .none, h⟩
theorem po_some (h : PE X e te) : PO X (some e) (tPart te) := by
  intro pins s σ H Q I hw
  rw [evalPart_some]
  refine thn (h pins s σ H _ I hw) fun u s1 hm0 => ?_
  obtain ⟨x, H1, I1, r1, q1⟩ := hm0
  obtain ⟨i, rfl, q⟩ := q1
  obtain ⟨t, rfl⟩ := r1
  exact ⟨some i, H1, I1, .int i t, q⟩
def SlR (X : Cx) (r : V → Option Int → Option Int → Hp → VK → Prop) : Prop :=
  ∀ (pins : List (Addr × Obj)) (s : Shared) (σ : St) (H : Hp) (x : V) (v vl vu : Value) (lo hi : Option Int) (sl : Addr) (Q : VK), Inv X pins σ H s → RelV x v → s.heap.IsSliceOf sl vl vu .none → IsPart vl lo → IsPart vu hi → r x lo hi H Q →
    ∃ T id, typeLookup (.type T) "__getitem__" = pure (some (.builtin id)) ∧ s.TypeIs v T ∧ wpAny (model X.prog X.w) X.A (getItem v (.ref sl)) (EP X pins σ Q) X.xe s
def tSl (r : V → Option Int → Option Int → Hp → VK → Prop) (te : TE) (tl th : TO) : TE := fun σ H Q => te σ H fun x H1 => tl σ H1 fun l H2 => th σ H2 fun u H3 => r x l u H3 Q
theorem pe_slice {r : V → Option Int → Option Int → Hp → VK → Prop} (hr : SlR X r) (he : PE X e te) (hl : PO X lo tl) (hu : PO X hi th) : PE X (.Subscript e (.Slice lo hi none p2) pos) (tSl r te tl th) := by
  intro pins s σ H Q I h
  refine Subscript_ (thn (he pins s σ H _ I h) fun v s1 hm0 => ?_)
  obtain ⟨x, H1, I1, r1, q1⟩ := hm0
  refine wpAny_Slice (thn (hl pins s1 σ H1 _ I1 q1) fun vl s2 hm0 => ?_)
  obtain ⟨l, H2, I2, pl, q2⟩ := hm0
  refine thn (hu pins s2 σ H2 _ I2 q2) fun vu s3 hm1 => ?_
  obtain ⟨u, H3, I3, pu, q3⟩ := hm1
  rw [evalPart_none]
  refine wpAny_pure ?_
  have I4 : Inv X pins σ H3 { s3 with heap := s3.heap.push { cls := .type "slice", data := .fields #[vl, vu, .none] } } := I3.kept (t' := s3.toks) fun b ob q => Heap.get?_push_of_some _ q
  obtain ⟨T, id, hT, ht, hg⟩ := hr pins { s3 with heap := s3.heap.push { cls := .type "slice", data := .fields #[vl, vu, .none] } } σ H3 x v vl vu l u s3.heap.objs.size Q I4 r1 (Heap.IsSliceOf.new ..) pl pu q3
  show wpAny (model X.prog X.w) X.A (subscriptTail e (.Slice lo hi none p2) v (.ref s3.heap.objs.size)) (EP X pins σ Q) X.xe { s3 with heap := s3.heap.push { cls := .type "slice", data := .fields #[vl, vu, .none] } }
  exact tail_any (ops := [.ref s3.heap.objs.size, v]) ht hT hg (by with_unfolding_all rfl)
def cutV (xs : List V) (lo hi : Option Int) : List V := (xs.drop (HT.sIx xs.length 0 lo)).take (HT.sIx xs.length xs.length hi - HT.sIx xs.length 0 lo)
theorem cutV_length (xs : List V) (lo hi : Option Int) : (cutV xs lo hi).length ≤ xs.length := by
  unfold cutV
  rw [List.length_take, List.length_drop]
  omega
end
end L2
namespace L2
open PySem PySem.Spec PyProof.Rows
def ixN (n : Nat) (i : Int) : Option Nat := if 0 ≤ i then (if i < n then some i.toNat else none) else if -(n : Int) ≤ i then some (i + n).toNat else none
def atI {α : Type} (xs : List α) (i : Int) : Option α := (ixN xs.length i).bind fun j => xs[j]?
theorem ixN_seq {n : Nat} {i : Int} {j : Nat} (h : ixN n i = some j) : seqIndex? i n = some j ∧ j < n ∧ -(n : Int) ≤ i ∧ i < n := by
  unfold ixN at h
  by_cases h0 : 0 ≤ i
  · rw [if_pos h0] at h
    by_cases h1 : i < n
    · rw [if_pos h1] at h
      have e : i.toNat = j := Option.some.inj h
      exact ⟨by rw [seqIndex_of h0 h1, e], by omega, by omega, h1⟩
    · rw [if_neg h1] at h; cases h
  · rw [if_neg h0] at h
    by_cases h1 : -(n : Int) ≤ i
    · rw [if_pos h1] at h
      have e : (i + n).toNat = j := Option.some.inj h
      exact ⟨by rw [seqIndex_neg (by omega) h1, e], by omega, h1, by omega⟩
    · rw [if_neg h1] at h; cases h
theorem atI_get {α : Type} {xs : List α} {i : Int} {v : α} (h : atI xs i = some v) : ∃ j, seqIndex? i xs.length = some j ∧ xs[j]? = some v ∧ j < xs.length ∧ -(xs.length : Int) ≤ i ∧ i < xs.length := by
  unfold atI at h
  cases e : ixN xs.length i with
  | none => rw [e] at h; cases h
  | some j =>
    rw [e] at h
    obtain ⟨h1, h2, h3, h4⟩ := ixN_seq e
    exact ⟨j, h1, h, h2, h3, h4⟩
theorem atI_nat {α : Type} {xs : List α} {j : Nat} {v : α} (h : xs[j]? = some v) : atI xs (j : Int) = some v := by
  have hj : j < xs.length := (List.getElem?_eq_some_iff.mp h).1
  have e : ixN xs.length (j : Int) = some j := by
    unfold ixN
    rw [if_pos (by omega), if_pos (by omega)]; simp
  unfold atI; rw [e]; exact h
theorem atI_last {α : Type} (xs : List α) (v : α) : atI (xs ++ [v]) (-1) = some v := by
  have hl : (xs ++ [v]).length = xs.length + 1 := by simp
  have e : ixN (xs ++ [v]).length (-1) = some xs.length := by
    unfold ixN
    rw [hl, if_neg (by decide), if_pos (by omega)]
    congr 1
    omega
  unfold atI
  rw [e]
  show (xs ++ [v])[xs.length]? = some v
  simp
def PlainIx (b : Expr) : Prop := ∀ o i, subscripted b false o i = operate [o, i] (getItem o i)
def IxR (X : Cx) (r : R2) : Prop :=
  ∀ (value slice : Expr) (pins : List (Addr × Obj)) (s : Shared) (σ : St) (H : Hp) (x y : V) (v u : Value) (Q : VK), Inv X pins σ H s → RelV x v → RelV y u → r x y H Q →
    subscripted slice false v u = operate [v, u] (getItem v u) → wpAny (model X.prog X.w) X.A (subscriptTail value slice v u) (EP X pins σ Q) X.xe s
def MtR (X : Cx) (id : String) (r : V → List V → Hp → VK → Prop) : Prop :=
  ∀ (pins : List (Addr × Obj)) (s : Shared) (σ : St) (H : Hp) (x : V) (xs : List V) (v : Value) (us : List Value) (Q : VK), Inv X pins σ H s → RelV x v → Vals xs us → r x xs H Q →
    wpAny (model X.prog X.w) X.A (call (.builtin id) (v :: us)) (EP X pins σ Q) X.xe s
section
variable {X : Cx} {a b : Expr} {ta tb : TE} {pos : Pos}
theorem pe_ix {r : R2} (hr : IxR X r) (ha : PE X a ta) (hb : PE X b tb) (hs : PlainIx b) : PE X (.Subscript a b pos) (tOp r ta tb) := by
  intro pins s σ H Q I h
  exact Subscript_ (binT ha hb I h fun v u s2 x y H2 I2 rx ry q => hr a b pins s2 σ H2 x y v u Q I2 rx ry q (hs _ _))
def rIxL (K : PySem.W.Frag) : R2 := fun x y H Q => ∃ p xs i v, x = .ref p ∧ y = .int i ∧ SqL K H p xs ∧ atI xs i = some v ∧ Q v H
def rIxT (K : PySem.W.Frag) : R2 := fun x y H Q => ∃ p xs i v, x = .ref p ∧ y = .int i ∧ SqT K H p xs ∧ atI xs i = some v ∧ Q v H
theorem ix_list : IxR X (rIxL X.K) := by
  intro value slice pins s σ H x y v u Q I rx ry h hs
  obtain ⟨p, xs, i, z, rfl, rfl, hq, he, q⟩ := h
  cases rx
  obtain ⟨t, rfl⟩ := ry
  obtain ⟨its, r, pl, hz⟩ := I.list hq
  obtain ⟨j, h1, h2, h3, h4, h5⟩ := atI_get he
  obtain ⟨w, ew, rw'⟩ := r.get h2
  have hl := r.length
  have hn := line63
  have fin : EP X pins σ Q w s := ⟨z, H, I, rw', q⟩
  by_cases h0 : 0 ≤ i
  · have hj : i.toNat = j := by
      rw [seqIndex_of h0 h5] at h1
      exact Option.some.inj h1
    exact item_listR pl.isList h0 (by omega) (by rw [hj]; simpa using ew) fin hs
  · have hj : (i + (its.toArray.size : Int)).toNat = j := by
      rw [seqIndex_neg (by omega) h4] at h1
      rw [List.size_toArray, ← hl]
      exact Option.some.inj h1
    exact subscriptTail_builtinR (x := w) pl.isList.typeIs slot_list_getitem.lookup
      (wpAny_getItem_list_neg (Q := fun r s' => r = w ∧ EP X pins σ Q r s') pl.isList (by omega) (by rw [List.size_toArray] <;> omega) (by omega) (by rw [hj]; simpa using ew) ⟨rfl, fin⟩) hs
theorem ix_tup : IxR X (rIxT X.K) := by
  intro value slice pins s σ H x y v u Q I rx ry h hs
  obtain ⟨p, xs, i, z, rfl, rfl, hq, he, q⟩ := h
  cases rx
  obtain ⟨t, rfl⟩ := ry
  obtain ⟨its, r, pl, hz⟩ := I.tuple hq
  obtain ⟨j, h1, h2, h3, h4, h5⟩ := atI_get he
  obtain ⟨w, ew, rw'⟩ := r.get h2
  have hl := r.length
  have hn := line63
  have fin : EP X pins σ Q w s := ⟨z, H, I, rw', q⟩
  exact subscriptTail_builtinR (x := w) pl.typeIs slot_tuple_getitem.lookup
    (getItem_tuple (j := j) (Q := fun r s' => r = w ∧ EP X pins σ Q r s') pl (by omega) (by omega) (by rw [List.size_toArray, ← hl]; exact h1) (by simpa using ew) ⟨rfl, fin⟩) hs
theorem mapSeq_set (its : List Value) (n j : Nat) (u : Value) : Obj.mapSeq (·.setIfInBounds j u) { cls := .type "list", data := .seq its.toArray n } = { cls := .type "list", data := .seq (its.set j u).toArray n } := by
  simp [Obj.mapSeq]
theorem Inv.lst {pins : List (Addr × Obj)} {σ : St} {H : Hp} {s : Shared} {p : Addr} {xs : List V} (I : Inv X pins σ H s) (h : H p = some (.lst xs)) :
    ∃ (its : List Value) (n : Nat), Vals xs its ∧ s.heap.get? p = some { cls := .type "list", data := .seq its.toArray n } ∧ xs.length ≤ sizeLine := by
  obtain ⟨z, its, n, r, e⟩ := I.hok p _ h
  exact ⟨its, n, r, e, z⟩
theorem Inv.lstUpd {pins : List (Addr × Obj)} {σ : St} {H : Hp} {s : Shared} {p : Addr} {xs ys : List V} {its its' : List Value} {n n' : Nat} {f : Obj → Obj} (I : Inv X pins σ H s) (h : H p = some (.lst xs))
    (ho : s.heap.get? p = some { cls := .type "list", data := .seq its.toArray n }) (hf : f { cls := .type "list", data := .seq its.toArray n } = { cls := .type "list", data := .seq its'.toArray n' }) (r : Vals ys its') (hz : ys.length ≤ sizeLine) (t : Nat) :
    Inv X pins σ (upd H p (.lst ys)) { s with heap := s.heap.update p f, toks := t } := by
  have e : (s.heap.update p f).get? p = some { cls := .type "list", data := .seq its'.toArray n' } := by
    rw [Heap.get?_update_self f ho (by rw [hf] <;> rfl), hf]
  refine I.write (x := p) (e := p) (by rw [h]; trivial) (.inl rfl) (fun b u hb q => (Heap.get?_update_other _ _ (Ne.symm hb)).trans q) ⟨_, e⟩ ?_
  exact ⟨hz, its', n', r, e⟩
def rSetL : V → V → V → Hp → (Hp → Prop) → Prop := fun o i v H Q => ∃ p xs k j, o = .ref p ∧ i = .int k ∧ H p = some (.lst xs) ∧ ixN xs.length k = some j ∧ Q (upd H p (.lst (xs.set j v)))
theorem set_list : PSet X rSetL := by
  intro pins s σ H o i v ov iv u Q I ro ri rv h
  obtain ⟨p, xs, k, j, rfl, rfl, hp, hj, q⟩ := h
  cases ro
  obtain ⟨t, rfl⟩ := ri
  obtain ⟨its, n, r, ho, hz⟩ := I.lst hp
  obtain ⟨h1, h2, h3, h4⟩ := ixN_seq hj
  have hl := r.length
  have hn := line63
  have I' : Inv X pins σ (upd H p (.lst (xs.set j v))) { s with heap := s.heap.update p (Obj.mapSeq (·.setIfInBounds j u)) } :=
    I.lstUpd hp ho (mapSeq_set its n j u) (r.set rv j) (by rw [List.length_set]; exact hz) s.toks
  by_cases h0 : 0 ≤ k
  · have hk : k.toNat = j := by
      rw [seqIndex_of h0 h4] at h1
      exact Option.some.inj h1
    exact PySem.W.ki_setAt ho h0 (by omega) (by rw [List.size_toArray, ← hl]; exact h4) (by rw [hk]; exact ⟨_, I', q⟩)
  · have hk : (k + (its.toArray.size : Int)).toNat = j := by
      rw [seqIndex_neg (by omega) h3] at h1
      rw [List.size_toArray, ← hl]
      exact Option.some.inj h1
    exact PySem.W.ki_setBack ho (by omega) (by rw [List.size_toArray, ← hl]; exact h3) (by omega) (by rw [hk]; exact ⟨_, I', q⟩)
theorem slice_bounds (lo hi : Option Int) (n : Nat) : (sliceBounds lo hi none n).1 = ((HT.sIx n 0 lo : Nat) : Int) ∧ (sliceBounds lo hi none n).2.1 = ((HT.sIx n n hi : Nat) : Int) ∧ (sliceBounds lo hi none n).2.2 = 1 := by
  refine ⟨?_, ?_, rfl⟩
  · cases lo with
    | none => simp [sliceBounds, HT.sIx]
    | some i =>
      simp only [sliceBounds, HT.sIx, Option.getD_none, show (1 : Int) > 0 by decide, if_true]
      by_cases h : i < 0
      · simp only [h, if_true] <;> omega
      · simp only [h, if_false] <;> omega
  · cases hi with
    | none => simp [sliceBounds, HT.sIx]
    | some i =>
      simp only [sliceBounds, HT.sIx, Option.getD_none, show (1 : Int) > 0 by decide, if_true]
      by_cases h : i < 0
      · simp only [h, if_true] <;> omega
      · simp only [h, if_false] <;> omega
theorem slicePick_cut (its : List Value) (lo hi : Option Int) : slicePick its.toArray lo hi none = ((its.drop (HT.sIx its.length 0 lo)).take (HT.sIx its.length its.length hi - HT.sIx its.length 0 lo)).toArray := by
  obtain ⟨h1, h2, h3⟩ := slice_bounds lo hi its.toArray.size
  unfold slicePick
  rw [h1, h2, h3]
  simp only [sliceRange_one, pick_run, List.size_toArray] <;> rfl
def rSlL (K : PySem.W.Frag) : V → Option Int → Option Int → Hp → VK → Prop := fun x lo hi H Q => ∃ a xs, x = .ref a ∧ SqL K H a xs ∧ ∀ p, H p = none → Q (.ref p) (upd H p (.lst (cutV xs lo hi)))
theorem sl_list : SlR X (rSlL X.K) := by
  intro pins s σ H x v vl vu lo hi sl Q I rx hs pl pu h
  obtain ⟨a, xs, rfl, hx, q⟩ := h
  cases rx
  obtain ⟨its, r, ht, hz⟩ := I.list hx
  have hlen := r.length
  refine ⟨"list", _, slot_list_getitem.lookup, ht.isList.typeIs, ?_⟩
  refine wpAny_getItem_list_slice ht.isList hs pl pu .none (by simp) ?_ (by rw [List.size_toArray] <;> omega)
  rw [slicePick_cut, ← hlen]
  refine ⟨.ref s.heap.objs.size, _, I.laid (t' := s.toks) (o := .lst (cutV xs lo hi)) (fun b ob q => Heap.get?_push_of_some _ q) (Nat.le_refl _) ?_, rfl, q _ (I.hok.fresh (Nat.le_refl _))⟩
  exact ⟨Nat.le_trans (cutV_length xs lo hi) hz, _, 0, (r.drop (HT.sIx xs.length 0 lo)).take (HT.sIx xs.length xs.length hi - HT.sIx xs.length 0 lo), Heap.get?_push_size _ rfl⟩
def flatV : V → Bool
  | .non => true
  | .bl _ => true
  | .int _ => true
  | .str _ => true
  | _ => false
def eqV : V → V → Bool
  | .non, .non => true
  | .bl a, .bl b => a == b
  | .bl a, .int b => (if a then 1 else 0) == b
  | .int a, .bl b => a == (if b then 1 else 0)
  | .int a, .int b => a == b
  | .str a, .str b => a == b
  | _, _ => false
theorem eqAt_V {A : Around} {s : Shared} {y x : V} {u v : Value} (ry : RelV y u) (rx : RelV x v) (fy : flatV y = true) (fx : flatV x = true) : SeqAt.EqAt A s u v (eqV y x) := by
  cases y with
  | non =>
    cases ry
    cases x with
    | non => cases rx; exact SeqAt.EqAt.same _
    | bl b => cases rx; exact SeqAt.EqAt.none_bool b
    | int b => obtain ⟨t, rfl⟩ := rx; exact SeqAt.EqAt.none_int b t
    | str b => obtain ⟨t, rfl⟩ := rx; exact SeqAt.EqAt.none_str b t
    | _ => exact absurd (show false = true from fx) Bool.false_ne_true
  | bl a =>
    cases ry
    cases x with
    | non => cases rx; exact SeqAt.EqAt.bool_none a
    | bl b => cases rx; exact SeqAt.EqAt.bool_bool a b
    | int b => obtain ⟨t, rfl⟩ := rx; exact SeqAt.EqAt.bool_int a b t
    | str b => obtain ⟨t, rfl⟩ := rx; exact SeqAt.EqAt.bool_str a b t
    | _ => exact absurd (show false = true from fx) Bool.false_ne_true
  | int a =>
    obtain ⟨t', rfl⟩ := ry
    cases x with
    | non => cases rx; exact SeqAt.EqAt.int_none a t'
    | bl b => cases rx; exact SeqAt.EqAt.int_bool a t' b
    | int b => obtain ⟨t, rfl⟩ := rx; exact SeqAt.EqAt.int_int a t' b t
    | str b => obtain ⟨t, rfl⟩ := rx; exact SeqAt.EqAt.int_str a t' b t
    | _ => exact absurd (show false = true from fx) Bool.false_ne_true
  | str a =>
    obtain ⟨t', rfl⟩ := ry
    cases x with
    | non => cases rx; exact SeqAt.EqAt.str_none a t'
    | bl b => cases rx; exact SeqAt.EqAt.str_bool a t' b
    | int b => obtain ⟨t, rfl⟩ := rx; exact SeqAt.EqAt.str_int a t' b t
    | str b => obtain ⟨t, rfl⟩ := rx; exact SeqAt.EqAt.str_str a t' b t
    | _ => exact absurd (show false = true from fx) Bool.false_ne_true
  | _ => exact absurd (show false = true from fy) Bool.false_ne_true
theorem call_len_seq : CallR X (.builtin "len") (fun xs H Q => ∃ p ys, xs = [.ref p] ∧ (SqL X.K H p ys ∨ SqT X.K H p ys) ∧ Q (.int ys.length) H) := by
  intro pins s σ H xs us Q I r h
  obtain ⟨p, ys, rfl, hq, q⟩ := h
  obtain ⟨u, rfl, rx⟩ := vals1 r
  cases rx
  have hn := line63
  rcases hq with hq | hq
  · obtain ⟨its, r', pl, hz⟩ := I.list hq
    have hlen := r'.length
    exact Calls.call_len_list pl.isList (by simp only [List.size_toArray] <;> omega) ⟨.int ys.length, H, I.tok _, ⟨s.toks + 1, by rw [List.size_toArray, hlen]⟩, q⟩
  · obtain ⟨its, r', pl, hz⟩ := I.tuple hq
    have hlen := r'.length
    exact len_tuple pl (by simp only [List.size_toArray] <;> omega) ⟨.int ys.length, H, I.tok _, ⟨s.toks + 1, by rw [List.size_toArray, hlen]⟩, q⟩
theorem call_list_of : CallR X (.type "list") (fun xs H Q => ∃ p ys, xs = [.ref p] ∧ (SqL X.K H p ys ∨ SqT X.K H p ys) ∧ ∀ l, H l = none → Q (.ref l) (upd H l (.lst ys))) := by
  intro pins s σ H xs us Q I r h
  obtain ⟨p, ys, rfl, hq, q⟩ := h
  obtain ⟨u, rfl, rx⟩ := vals1 r
  cases rx
  have fin : ∀ (its : List Value), Vals ys its → ys.length ≤ sizeLine → ∀ (h' : Heap) (c' : Nat), (∀ b o', s.heap.get? b = some o' → h'.get? b = some o') →
      h'.get? s.heap.objs.size = some { cls := .type "list", dict := none, data := .seq its.toArray c', slots := #[] } → EP X pins σ Q (.ref s.heap.objs.size) { s with heap := h' } := fun its r' hz h' c' kp e =>
    ⟨.ref s.heap.objs.size, _, I.laid (t' := s.toks) kp (Nat.le_refl _) (show ObjOk X.prog X.w _ h' _ (.lst ys) from ⟨hz, its, c', r', e⟩), rfl, q _ (I.hok.fresh (Nat.le_refl _))⟩
  rcases hq with hq | hq
  · obtain ⟨its, r', pl, hz⟩ := I.list hq
    have hlen := r'.length
    obtain ⟨o, ho, hc, n, hd⟩ := pl.isList
    exact call_list_seq p (.inl rfl) ho hc hd (fun h' c' kp e => fin its r' hz h' c' kp e) (by simp only [List.size_toArray] <;> omega)
  · obtain ⟨its, r', pl, hz⟩ := I.tuple hq
    have hlen := r'.length
    obtain ⟨o, ho, hc, n, hd⟩ := pl
    exact call_list_seq p (.inr rfl) ho hc hd (fun h' c' kp e => fin its r' hz h' c' kp e) (by simp only [List.size_toArray] <;> omega)
theorem call_tuple_of : CallR X (.type "tuple") (fun xs H Q => ∃ p ys, xs = [.ref p] ∧ ((SqL X.K H p ys ∧ ∀ l, H l = none → Q (.ref l) (upd H l (.tup ys))) ∨ (SqT X.K H p ys ∧ Q (.ref p) H))) := by
  intro pins s σ H xs us Q I r h
  obtain ⟨p, ys, rfl, h⟩ := h
  obtain ⟨u, rfl, rx⟩ := vals1 r
  cases rx
  rcases h with ⟨hq, q⟩ | ⟨hq, q⟩
  · obtain ⟨its, r', pl, hz⟩ := I.list hq
    have hlen := r'.length
    refine call_tuple_list pl.isList (fun h' kp => ?_) (by simp only [List.size_toArray] <;> omega)
    have I1 : Inv X pins σ H { s with heap := h' } := I.kept (t' := s.toks) kp
    have I2 : Inv X pins σ (upd H h'.objs.size (.tup ys)) { s with heap := h'.push { cls := .type "tuple", data := .seq its.toArray } } :=
      I1.laid (t' := s.toks) (fun b o e => Heap.get?_push_of_some _ e) (Nat.le_refl _) (show ObjOk X.prog X.w _ _ _ (.tup ys) from ⟨hz, its, r', IsTup.new _ _⟩)
    exact ⟨.ref h'.objs.size, _, I2, rfl, q _ (I1.hok.fresh (Nat.le_refl _))⟩
  · obtain ⟨its, r', pl, hz⟩ := I.tuple hq
    exact call_tuple_same pl ⟨.ref p, H, I, rfl, q⟩
def tyV (K : PySem.W.Frag) (T : String) (x : V) (H : Hp) : Prop := match x with
  | .str _ => T = "str"
  | .int _ => T = "int"
  | .ref p => (T = "list" ∧ ∃ xs, SqL K H p xs) ∨ (T = "tuple" ∧ ∃ o, K.lookup p = some o ∧ o.cls = .type "tuple" ∧ o.dict = none) ∨
      (T = "dict" ∧ ((∃ kvs, H p = some (.dK kvs)) ∨ ∃ kvs, H p = some (.dT kvs))) ∨ (T = "set" ∧ ∃ S n, H p = some (.set S n))
  | _ => False
theorem tyV_is {pins : List (Addr × Obj)} {σ : St} {H : Hp} {s : Shared} {T : String} {x : V} {v : Value} (I : Inv X pins σ H s) (r : RelV x v) (ty : tyV X.K T x H) :
    s.TypeIs v T ∧ ∀ a, v = .ref a → ∃ ob, s.heap.get? a = some ob ∧ ob.dict = none := by
  cases x with
  | str z =>
    obtain ⟨t, rfl⟩ := r
    cases (show T = "str" from ty)
    exact ⟨typeIs_str s z t, fun _ e => nomatch e⟩
  | int i =>
    obtain ⟨t, rfl⟩ := r
    cases (show T = "int" from ty)
    exact ⟨typeIs_int s i t, fun _ e => nomatch e⟩
  | ref p =>
    cases r
    rcases ty with ⟨rfl, xs, hq⟩ | ⟨rfl, o, hk, hc, hd⟩ | ⟨rfl, hk⟩ | ⟨rfl, S, n, hk⟩
    · obtain ⟨its, _, pl, _⟩ := I.list hq
      refine ⟨pl.isList.typeIs, fun a e => ?_⟩
      cases e
      obtain ⟨o, n, e, c, hd, _⟩ := pl
      exact ⟨o, e, hd⟩
    · refine ⟨⟨o, I.kIn p o hk, hc⟩, fun a e => ?_⟩
      cases e
      exact ⟨o, I.kIn _ o hk, hd⟩
    · have z : ∃ o, s.heap.get? p = some o ∧ o.ExactDict := by
        rcases hk with ⟨kvs, hk⟩ | ⟨kvs, hk⟩
        · obtain ⟨_, _, _, _, o, _, _, e, ex, _⟩ := I.hok p _ hk
          exact ⟨o, e, ex⟩
        · obtain ⟨_, _, _, _, o, _, _, e, ex, _⟩ := I.hok p _ hk
          exact ⟨o, e, ex⟩
      obtain ⟨o, e, ex⟩ := z
      refine ⟨⟨o, e, ex.1⟩, fun a e2 => ?_⟩
      cases e2
      exact ⟨o, e, ex.2.1⟩
    · obtain ⟨o, _, _, _, e, ex, _⟩ := I.hok p _ hk
      refine ⟨⟨o, e, ex.1⟩, fun a e2 => ?_⟩
      cases e2
      exact ⟨o, e, ex.2.1⟩
  | _ => exact False.elim ty
def tBM (K : PySem.W.Frag) (T : String) (r : V → List V → Hp → VK → Prop) (to : TE) (t : TA) : TE := fun σ H Q => to σ H fun x H1 => tyV K T x H1 ∧ t σ H1 fun xs H2 => r x xs H2 Q
variable {o e : Expr} {es : List Expr} {to : TE} {t : TA} {name : Str} {apos cpos : Pos} {T id : String} {r : V → List V → Hp → VK → Prop}
theorem pe_bm (pa : PlainAttrs T) (slot : Slot T name id) (hty : typeOf (.builtin id) = pure (.type "method_descriptor")) (hm : MtR X id r) (ho : PE X o to) (ha : PA X (e :: es) t)
    (hbase : attributeBase o name X.env (eval o X.env) = eval o X.env := by rfl)
    (hfew : ((backTo cpos (starEach (e :: es) X.env)).all (fun x => !x.1) && (backToKw cpos (keywordEach [] X.env)).all (fun x => x.1.isSome)
      && decide ((e :: es).length + ([] : List Keyword).length + (if ([] : List Keyword).isEmpty then 0 else 1) < 30)) = true := by rfl)
    (hline : (apos.endLine == cpos.line) = true := by rfl) (hs : starEach (e :: es) X.env = (false, eval e X.env) :: starEach es X.env := by rfl) (hplain : (backTo cpos (starEach es X.env)).any (·.1) = false := by rfl) :
    PE X (.Call (.Attribute o name apos) (e :: es) [] cpos) (tBM X.K T r to t) := by
  intro pins s σ H Q I h
  refine wpAny_Call_method_late hbase hfew hline rfl (thn (ho pins s σ H _ I h) fun v s1 hm0 => ?_)
  obtain ⟨x, H1, I1, r1, ty, q1⟩ := hm0
  obtain ⟨h1, h2⟩ := tyV_is I1 r1 ty
  refine ⟨T, id, pa, slot, hty, h1, h2, ?_⟩
  have hA := ha cpos pins s1 σ H1 _ I1 q1
  rw [hs] at hA ⊢
  refine Calls.callWith_builtin (by show (false || (backTo cpos (starEach es X.env)).any (·.1)) = false; rw [hplain] <;> rfl) (Calls.evalArgs_plain ?_)
  refine thn hA fun us s2 hm0 => ?_
  obtain ⟨vs, H2, I2, r2, q2⟩ := hm0
  exact hm pins s2 σ H2 x vs v us Q I2 r1 r2 q2
/- xs.append(e), list.index on a module's tuple .. are MtR facts of 06m -/
end
end L2
namespace L2
open PySem PySem.Spec PyProof.Rows
def MtM (X : Cx) (id : String) (r : V → List V → Hp → VK → Prop) : Prop :=
  ∀ (pins : List (Addr × Obj)) (s : Shared) (σ : St) (H : Hp) (x : V) (xs : List V) (v : Value) (us : List Value) (Q : VK), Inv X pins σ H s → RelV x v → Vals xs us → r x xs H Q →
    wpAny (model X.prog X.w) X.A (call (.builtin id) (v :: us)) (EP X pins σ Q) X.xe s
theorem Vals.one {x : V} {us : List Value} (h : Vals [x] us) : ∃ u, us = [u] ∧ RelV x u := by
  cases h with
  | cons r e => cases e; exact ⟨_, rfl, r⟩
theorem Vals.two {x y : V} {us : List Value} (h : Vals [x, y] us) : ∃ u v, us = [u, v] ∧ RelV x u ∧ RelV y v := by
  cases h with
  | cons r e =>
    obtain ⟨v, e1, q⟩ := Vals.one e
    subst e1
    exact ⟨_, _, rfl, r, q⟩
theorem Vals.rep {xs : List V} {us : List Value} (h : Vals xs us) : ∀ k : Nat, Vals (List.replicate k xs).flatten (List.replicate k us).flatten
  | 0 => .nil
  | k + 1 => by
    rw [List.replicate_succ, List.replicate_succ, List.flatten_cons, List.flatten_cons]
    exact Vals.append h (Vals.rep h k)
theorem foldl_rep (its : List Value) : ∀ (k : Nat) (acc : List Value),
    List.foldl (fun x1 x2 => x1 ++ x2) acc.toArray (List.replicate k its.toArray) = (acc ++ (List.replicate k its).flatten).toArray
  | 0, acc => by simp
  | k + 1, acc => by
    have e : acc.toArray ++ its.toArray = (acc ++ its).toArray := by simp
    have e2 : (acc ++ its) ++ (List.replicate k its).flatten = acc ++ (List.replicate (k + 1) its).flatten := by
      rw [List.replicate_succ, List.flatten_cons, List.append_assoc]
    rw [← e2, ← foldl_rep its k (acc ++ its), ← e, List.replicate_succ, List.foldl_cons]
section
variable {X : Cx} {pins : List (Addr × Obj)} {σ : St} {H : Hp} {s : Shared} {l b : Addr} {xs ys zs : List V}
theorem Inv.lset {its its' : List Value} {n : Nat} {f : Array Value → Array Value} {t' : Nat} (I : Inv X pins σ H s) (hH : H l = some (.lst xs))
    (e : s.heap.get? l = some { cls := .type "list", data := .seq its.toArray n }) (hf : f its.toArray = its'.toArray) (hv : Vals ys its') (hz : ys.length ≤ sizeLine) :
    Inv X pins σ (upd H l (.lst ys)) { s with heap := s.heap.update l (Obj.mapSeq f), toks := t' } := by
  have q := PySem.IsL.update e f
  rw [hf] at q
  refine I.write (x := l) (e := l) (by rw [hH]; exact trivial) (.inl rfl) (fun b' u hb hu => (Heap.get?_update_other s.heap (Obj.mapSeq f) (Ne.symm hb)).trans hu) ⟨_, q⟩ ?_
  exact ⟨hz, its', _, hv, q⟩
theorem Inv.lnew {its : List Value} {t' : Nat} (I : Inv X pins σ H s) (hv : Vals ys its) (hz : ys.length ≤ sizeLine) :
    Inv X pins σ (upd H s.heap.objs.size (.lst ys)) { s with heap := s.heap.push { cls := .type "list", data := .seq its.toArray }, toks := t' } :=
  I.laid (fun _ _ q => Heap.get?_push_of_some _ q) (Nat.le_refl _) ⟨hz, its, 0, hv, Heap.get?_push_size _ rfl⟩
theorem Inv.fresh (I : Inv X pins σ H s) : H s.heap.objs.size = none := I.hok.fresh (Nat.le_refl _)
theorem Inv.lstM (I : Inv X pins σ H s) (hH : H l = some (.lst xs)) : xs.length ≤ sizeLine ∧ ∃ (its : List Value) (n : Nat), Vals xs its ∧ xs.length = its.length ∧ s.heap.get? l = some { cls := .type "list", data := .seq its.toArray n } := by
  obtain ⟨z, its, n, r, e⟩ := I.hok l _ hH
  exact ⟨z, its, n, r, r.length, e⟩
theorem notLongL {n : Nat} (h : n ≤ sizeLine) : Builtin.List.listTooLong n = false := by
  unfold Builtin.List.listTooLong
  exact decide_eq_false (by omega)
end
section
variable {X : Cx}
def rAppend : V → List V → Hp → VK → Prop := fun x vs H Q => ∃ l xs y, x = .ref l ∧ vs = [y] ∧ H l = some (.lst xs) ∧ xs.length < sizeLine ∧ Q .non (upd H l (.lst (xs ++ [y])))
theorem mt_append : MtM X "list.append" rAppend := by
  intro pins s σ H x vs v us Q I rx rv h
  obtain ⟨l, xs, y, rfl, rfl, hH, hz, q⟩ := h
  cases rx
  obtain ⟨u, rfl, ru⟩ := rv.one
  obtain ⟨z, its, n, r, hl, e⟩ := I.lstM hH
  refine call_meets F.slot_list_append ⟨_, e, rfl⟩ F.entry_list_append (F.args_list_append_2 _ _) (PySem.list_append l its.toArray n u (by rw [List.size_toArray]; omega)) ⟨e, ?_⟩
  refine ⟨.non, _, I.lset (its' := its ++ [u]) hH e (by simp) (r.append (.cons ru .nil)) ?_, rfl, q⟩
  rw [List.length_append, List.length_singleton]
  omega
def rCat : R2 := fun x y H Q => ∃ l b xs zs, x = .ref l ∧ y = .ref b ∧ H l = some (.lst xs) ∧ H b = some (.lst zs) ∧ xs.length + zs.length ≤ sizeLine ∧ ∀ p, H p = none → Q (.ref p) (upd H p (.lst (xs ++ zs)))
theorem op_cat : OpR X (binaryOp .Add) rCat := by
  intro pins s σ H x y v u Q I rx ry h
  obtain ⟨l, b, xs, zs, rfl, rfl, hH, hB, hz, q⟩ := h
  cases rx
  cases ry
  obtain ⟨z, its, n, r, hl, e⟩ := I.lstM hH
  obtain ⟨z2, its2, n2, r2, hl2, e2⟩ := I.lstM hB
  refine PySem.P.add_list e e2 ?_ (by rw [List.size_toArray, List.size_toArray]; omega)
  have ea : its.toArray ++ its2.toArray = (its ++ its2).toArray := by simp
  rw [ea]
  exact ⟨.ref _, _, I.lnew (t' := s.toks) (r.append r2) (by rw [List.length_append]; omega), rfl, q _ I.fresh⟩
def rRep : R2 := fun x y H Q => ∃ l k xs, x = .ref l ∧ y = .int k ∧ H l = some (.lst xs) ∧ -(2 ^ 63) ≤ k ∧ k < 2 ^ 63 ∧ xs.length * k.toNat ≤ sizeLine ∧
  ∀ p, H p = none → Q (.ref p) (upd H p (.lst (List.replicate k.toNat xs).flatten))
theorem len_rep {α : Type} (xs : List α) (k : Nat) : (List.replicate k xs).flatten.length = k * xs.length := by
  induction k with
  | zero => simp
  | succ k ih => rw [List.replicate_succ, List.flatten_cons, List.length_append, ih, Nat.succ_mul, Nat.add_comm]
theorem op_rep : OpR X (binaryOp .Mult) rRep := by
  intro pins s σ H x y v u Q I rx ry h
  obtain ⟨l, k, xs, rfl, rfl, hH, h1, h2, hz, q⟩ := h
  cases rx
  obtain ⟨t, rfl⟩ := ry
  obtain ⟨z, its, n, r, hl, e⟩ := I.lstM hH
  have hlen : its.toArray.size * k.toNat ≤ sizeLine := by rw [List.size_toArray, ← hl]; exact hz
  have hcap : ¬ its.toArray.size * k.toNat > (2 ^ 63 - 1) / 8 := by
    have : (sizeLine : Nat) ≤ (2 ^ 63 - 1) / 8 := by decide
    omega
  have hfit : ¬ (!Builtin.List.listFitsIndex k) = true := by
    rw [fitsIndex_both h1 h2]
    exact Bool.false_ne_true
  have hlong : ¬ Builtin.List.listTooLong (its.toArray.size * k.toNat) = true := by
    rw [notLongL hlen]
    exact Bool.false_ne_true
  have hnew : List.foldl (fun x1 x2 => x1 ++ x2) #[] (List.replicate (if its.toArray.isEmpty = true then 0 else k.toNat) its.toArray) = (List.replicate k.toNat its).flatten.toArray := by
    have f0 : ∀ m : Nat, List.foldl (fun x1 x2 => x1 ++ x2) #[] (List.replicate m its.toArray) = (List.replicate m its).flatten.toArray := fun m => by
      have := foldl_rep its m []
      rw [List.nil_append] at this
      exact this
    rw [f0]
    cases its with
    | nil => simp
    | cons a r' => rw [if_neg (by simp)]
  refine wpAny_binaryOp_repeat_ref (T := "list") (U := "int") (by decide) ⟨_, e, rfl⟩ (fun s' => typeIs_int s' k t) noFill_list_mul F.fills_int_mul F.slot_int_rmul repeat_list F.slot_int_index.lookup
    (call_meets F.slot_int_rmul (typeIs_int s k t) F.entry_int_rmul (F.args_int_rmul_2 _ _) (int___rmul___int_list k t l its.toArray n)
      ⟨e, rfl, ⟨_, e, rfl⟩, call_meets F.slot_list_mul ⟨_, e, rfl⟩ F.entry_list_mul (F.args_list_mul_2 _ _) (AutoListH.list___mul___list_int_3 l its.toArray n k t hfit hcap hlong) ⟨e, ?_⟩⟩)
  rw [hnew]
  exact ⟨.ref _, _, I.lnew (t' := s.toks) (r.rep k.toNat) (by rw [len_rep, Nat.mul_comm]; exact hz), rfl, q _ I.fresh⟩
end
section
variable {prog : Program} {w : World} {A : Around} {E : Value → Shared → Prop} {s : Shared}
set_option maxRecDepth 100000 in
end
section
variable {X : Cx}
end
end L2
namespace L2
open PySem PySem.Spec PyProof.Rows
section
variable {κ : Type} [DecidableEq κ]
def valV (kvs : List (κ × V)) (k : κ) : Option V := (kvs.find? fun kv => decide (kv.1 = k)).map (·.2)
def putK (kvs : List (κ × V)) (k : κ) (v : V) : List (κ × V) :=
  if (kvs.any fun kv => decide (kv.1 = k)) = true then kvs.map (fun kv => if kv.1 = k then (kv.1, v) else kv) else kvs ++ [(k, v)]
theorem valV_pos {p : κ × V} {r : List (κ × V)} {k : κ} (e : p.1 = k) : valV (p :: r) k = some p.2 := by simp [valV, List.find?_cons, e]
theorem valV_neg {p : κ × V} {r : List (κ × V)} {k : κ} (e : ¬ p.1 = k) : valV (p :: r) k = valV r k := by simp [valV, List.find?_cons, e]
theorem valV_any (k : κ) : ∀ kvs : List (κ × V), (kvs.any fun kv => decide (kv.1 = k)) = (valV kvs k).isSome
  | [] => rfl
  | p :: r => by
    rw [List.any_cons]
    by_cases e : p.1 = k
    · simp only [valV_pos e, decide_eq_true e, Bool.true_or, Option.isSome_some]
    · rw [valV_neg e, decide_eq_false e, Bool.false_or]; exact valV_any k r
theorem length_putK (kvs : List (κ × V)) (k : κ) (v : V) : (putK kvs k v).length ≤ kvs.length + 1 := by
  unfold putK
  split
  · rw [List.length_map]; omega
  · rw [List.length_append, List.length_cons, List.length_nil]; omega
theorem RelO.isSome_eq {o : Option V} {u : Option Value} (r : RelO o u) : o.isSome = u.isSome := by
  cases o with
  | none => cases u with
    | none => rfl
    | some _ => exact (show False from r).elim
  | some _ => cases u with
    | none => exact (show False from r).elim
    | some _ => rfl
theorem KV.val {kvs : List (κ × V)} {vs : List (κ × Value)} (r : KV kvs vs) (k : κ) : RelO (valV kvs k) (valueAt vs k) := by
  unfold KV at r
  induction r with
  | nil => exact True.intro
  | @cons p q ps qs h t ih =>
    obtain ⟨h1, h2⟩ := h
    by_cases e : p.1 = k
    · have e' : q.1 = k := h1.symm.trans e
      have b : valueAt (q :: qs) k = some q.2 := by simp [valueAt, List.find?_cons, e']
      rw [valV_pos e, b]; exact h2
    · have e' : ¬ q.1 = k := fun z => e (h1.trans z)
      have b : valueAt (q :: qs) k = valueAt qs k := by simp [valueAt, List.find?_cons, e']
      rw [valV_neg e, b]; exact ih
theorem KV.any {kvs : List (κ × V)} {vs : List (κ × Value)} (r : KV kvs vs) (k : κ) : (kvs.any fun kv => decide (kv.1 = k)) = vs.any fun kv => decide (kv.1 = k) := by
  unfold KV at r
  induction r with
  | nil => rfl
  | cons h t ih => rw [List.any_cons, List.any_cons, ih, h.1]
theorem KV.repl {kvs : List (κ × V)} {vs : List (κ × Value)} (r : KV kvs vs) (k : κ) {y : V} {u : Value} (ry : RelV y u) :
    KV (kvs.map fun kv => if kv.1 = k then (kv.1, y) else kv) (vs.map fun kv => if kv.1 = k then (kv.1, u) else kv) := by
  unfold KV at r ⊢
  induction r with
  | nil => exact .nil
  | @cons p q ps qs h t ih =>
    rw [List.map_cons, List.map_cons]
    refine .cons ?_ ih
    obtain ⟨h1, h2⟩ := h
    by_cases e : p.1 = k
    · rw [if_pos e, if_pos (h1.symm.trans e)]; exact ⟨h1, ry⟩
    · rw [if_neg e, if_neg (fun z => e (h1.trans z))]; exact ⟨h1, h2⟩
theorem KV.put {kvs : List (κ × V)} {vs : List (κ × Value)} (r : KV kvs vs) (k : κ) {y : V} {u : Value} (ry : RelV y u) : KV (putK kvs k y) (stored vs k u) := by
  unfold putK stored
  rw [r.any k]
  by_cases e : (vs.any fun kv => decide (kv.1 = k)) = true
  · rw [if_pos e, if_pos e]; exact r.repl k ry
  · rw [if_neg e, if_neg e]; exact Paired.snoc r ⟨rfl, ry⟩
theorem KV.length {kvs : List (κ × V)} {vs : List (κ × Value)} (r : KV kvs vs) : kvs.length = vs.length := Paired.length r
end
theorem kV_is {P : Program} {w : World} {k : Key} {u : Value} (r : RelV (kV k) u) : (mixKind P w).is k u = true := by
  cases k with
  | inl i => obtain ⟨t, e⟩ := (show ∃ t, u = Value.int i t from r); subst e; exact mixKind_int P w i t
  | inr x => obtain ⟨t, e⟩ := (show ∃ t, u = Value.str x t from r); subst e; exact mixKind_str P w x t
theorem items_are {P : Program} {w : World} : ∀ {ks : List Key} {us : List Value}, Vals (ks.map kV) us → ItemsAre (mixKind P w) ks us
  | [], _, r => by rw [List.map_nil] at r; cases r; exact .nil
  | k :: ks, _, r => by
    rw [List.map_cons] at r
    cases r with
    | cons h t => exact .cons (kV_is h) (items_are t)
abbrev KT (H : Hp) : List (List Key × V) → List (List Key × Addr × Value) → Prop := Paired fun p q => p.1 = q.1 ∧ H q.2.1 = some (.tup (p.1.map kV)) ∧ RelV p.2 q.2.2
theorem KT.val {H : Hp} {kvs : List (List Key × V)} {xs : List (List Key × Addr × Value)} (r : KT H kvs xs) (k : List Key) : RelO (valV kvs k) ((atKey xs k).map (·.2)) := by
  induction r with
  | nil => exact True.intro
  | @cons p q ps qs h t ih =>
    obtain ⟨h1, _, h2⟩ := h
    by_cases e : p.1 = k
    · have e' : q.1 = k := h1.symm.trans e
      have b : atKey (q :: qs) k = some q.2 := by simp [atKey, List.find?_cons, e']
      rw [valV_pos e, b]; exact h2
    · have e' : ¬ q.1 = k := fun z => e (h1.trans z)
      have b : atKey (q :: qs) k = atKey qs k := by simp [atKey, List.find?_cons, e']
      rw [valV_neg e, b]; exact ih
theorem KT.repl {H : Hp} {kvs : List (List Key × V)} {xs : List (List Key × Addr × Value)} (r : KT H kvs xs) (k : List Key) {y : V} {u : Value} (ry : RelV y u) :
    KT H (kvs.map fun kv => if kv.1 = k then (kv.1, y) else kv) (xs.map (putAt k u)) := by
  induction r with
  | nil => exact .nil
  | @cons p q ps qs h t ih =>
    rw [List.map_cons, List.map_cons]
    refine .cons ?_ ih
    obtain ⟨h1, h2, h3⟩ := h
    unfold putAt
    by_cases e : p.1 = k
    · rw [if_pos e, if_pos (h1.symm.trans e)]; exact ⟨h1, h2, ry⟩
    · rw [if_neg e, if_neg (fun z => e (h1.trans z))]; exact ⟨h1, h2, h3⟩
theorem KT.put {H : Hp} {kvs : List (List Key × V)} {xs : List (List Key × Addr × Value)} (r : KT H kvs xs) (k : List Key) {b : Addr} {y : V} {u : Value} (hb : H b = some (.tup (k.map kV))) (ry : RelV y u) :
    KT H (putK kvs k y) (storedH xs k b u) := by
  have e : (kvs.any fun kv => decide (kv.1 = k)) = (atKey xs k).isSome := by
    rw [valV_any, (r.val k).isSome_eq, Option.isSome_map]
  unfold putK storedH
  rw [e]
  by_cases q : (atKey xs k).isSome = true
  · rw [if_pos q, if_pos q]; exact r.repl k ry
  · rw [if_neg q, if_neg q]; exact Paired.snoc r ⟨rfl, hb, ry⟩
theorem KT.keeps {H H' : Hp} {kvs : List (List Key × V)} {xs : List (List Key × Addr × Value)} (r : KT H kvs xs) (ht : ∀ b ys, H b = some (.tup ys) → H' b = some (.tup ys)) : KT H' kvs xs :=
  Paired.mapP r fun _ _ z => ⟨z.1, ht _ _ z.2.1, z.2.2⟩
section
variable {P : Program} {w : World} {H : Hp} {h : Heap} {a : Addr}
theorem rd_of {u : HO} (ok : HOk P w H h) (e : Rd H a u) : ObjOk P w H h a u := e.ok ok
theorem dk_rd {kvs : List (Key × V)} (ok : HOk P w H h) (e : Rd H a (.dK kvs)) : kvs.length ≤ sizeLine ∧ (a == sysModules) = false ∧ ∃ vs, KV kvs vs ∧ h.DictOf (mixKind P w) a vs :=
  show ObjOk P w H h a (.dK kvs) from rd_of ok e
theorem dk_of {kvs : List (Key × V)} (ok : HOk P w H h) (e : H a = some (.dK kvs)) : kvs.length ≤ sizeLine ∧ (a == sysModules) = false ∧ ∃ vs, KV kvs vs ∧ h.DictOf (mixKind P w) a vs := dk_rd ok (.inl e)
theorem key_of {ks : List Key} (ok : HOk P w H h) (e : H a = some (.tup (ks.map kV))) : (tupleKind (mixKind P w)).is h ks a := by
  obtain ⟨_, its, r, o, h1, h2, n, h3⟩ := (show ObjOk P w H h a (.tup (ks.map kV)) from ok a _ e)
  exact ⟨o, its.toArray, n, h1, h2, h3, by simpa using items_are r⟩
theorem dt_rd {kvs : List (List Key × V)} (ok : HOk P w H h) (e : Rd H a (.dT kvs)) : kvs.length ≤ sizeLine ∧ (a == sysModules) = false ∧
    ∃ xs, KT H kvs xs ∧ h.DictOfH (tupleKind (mixKind P w)) a xs := by
  obtain ⟨z, y, xs, r, o, es, ep, h1, h2, h3, h4, h5⟩ := (show ObjOk P w H h a (.dT kvs) from rd_of ok e)
  refine ⟨z, y, xs, r, o, es, ep, h1, h2, h3, h4, fun x hx => ?_, h5⟩
  have all : ∀ {l : List (List Key × V)} {m : List (List Key × Addr × Value)}, KT H l m → ∀ x ∈ m, (tupleKind (mixKind P w)).is h x.1 x.2.1 := by
    intro l m q
    induction q with
    | nil => intro x hx; exact nomatch hx
    | @cons p q ps qs hq t ih =>
      intro x hx
      rcases List.mem_cons.mp hx with e | hx
      · subst e
        exact key_of ok (by rw [← hq.1]; exact hq.2.1)
      · exact ih x hx
  exact all r x hx
theorem dt_of {kvs : List (List Key × V)} (ok : HOk P w H h) (e : H a = some (.dT kvs)) : kvs.length ≤ sizeLine ∧ (a == sysModules) = false ∧
    ∃ xs, KT H kvs xs ∧ h.DictOfH (tupleKind (mixKind P w)) a xs := dt_rd ok (.inl e)
end
def DGet (H : Hp) (a : Addr) (y : V) (r : Option V) : Prop :=
  (∃ kvs k, Rd H a (.dK kvs) ∧ y = kV k ∧ r = valV kvs k) ∨ ∃ kvs k b, Rd H a (.dT kvs) ∧ y = .ref b ∧ H b = some (.tup (k.map kV)) ∧ r = valV kvs k
def DPut (H : Hp) (a : Addr) (y v : V) (H' : Hp) : Prop :=
  (∃ kvs k, H a = some (.dK kvs) ∧ y = kV k ∧ kvs.length < sizeLine ∧ H' = upd H a (.dK (putK kvs k v))) ∨
  ∃ kvs k b, H a = some (.dT kvs) ∧ y = .ref b ∧ H b = some (.tup (k.map kV)) ∧ kvs.length < sizeLine ∧ H' = upd H a (.dT (putK kvs k v))
theorem DGet.k {H : Hp} {a : Addr} {kvs : List (Key × V)} {k : Key} (e : H a = some (.dK kvs)) : DGet H a (kV k) (valV kvs k) := .inl ⟨kvs, k, .inl e, rfl, rfl⟩
theorem DGet.t {H : Hp} {a b : Addr} {kvs : List (List Key × V)} {k : List Key} (e : H a = some (.dT kvs)) (eb : H b = some (.tup (k.map kV))) : DGet H a (.ref b) (valV kvs k) := .inr ⟨kvs, k, b, .inl e, rfl, eb, rfl⟩
theorem DPut.k {H : Hp} {a : Addr} {kvs : List (Key × V)} {k : Key} {v : V} (e : H a = some (.dK kvs)) (hl : kvs.length < sizeLine) : DPut H a (kV k) v (upd H a (.dK (putK kvs k v))) := .inl ⟨kvs, k, e, rfl, hl, rfl⟩
theorem DPut.t {H : Hp} {a b : Addr} {kvs : List (List Key × V)} {k : List Key} {v : V} (e : H a = some (.dT kvs)) (eb : H b = some (.tup (k.map kV))) (hl : kvs.length < sizeLine) :
    DPut H a (.ref b) v (upd H a (.dT (putK kvs k v))) := .inr ⟨kvs, k, b, e, rfl, eb, hl, rfl⟩
section
variable {X : Cx} {pins : List (Addr × Obj)} {σ : St} {H : Hp} {s : Shared} {a : Addr} {y v : V} {u r : Value} {o : Option V} {A : Around} {E : Value → Shared → Prop}
theorem Inv.big (I : Inv X pins σ H s) : sysModules < s.heap.objs.size := by
  have h : mainGlobals < s.heap.objs.size := (I.mod.glob.keeps I.bk).lt
  exact Nat.lt_trans (by decide) h
theorem d_getItem {Q : Value → Shared → Prop} (hu : A.units + 1 < cLine) (I : Inv X pins σ H s) (g : DGet H a y (some v)) (ry : RelV y u) (h : ∀ w' s', Inv X pins σ H s' → RelV v w' → Q w' s') :
    wpAny (model X.prog X.w) A (getItem (.ref a) u) Q E s := by
  rcases g with ⟨kvs, k, e, ey, l⟩ | ⟨kvs, k, b, e, ey, eb, l⟩
  · subst ey
    obtain ⟨z, hd, vs, rel, dd⟩ := dk_rd I.hok e
    obtain ⟨w', hw, rw'⟩ := RelO.some_of (v := v) (o := valueAt vs k) (by rw [l]; exact rel.val k)
    exact wpAny_getItem_of (kV_is ry) dd.mapOf hw (h w' _ (I.tok _) rw')
  · subst ey
    cases (show u = Value.ref b from ry)
    obtain ⟨z, hd, xs, rel, dd⟩ := dt_rd I.hok e
    obtain ⟨w', hw, rw'⟩ := RelO.some_of (v := v) (o := (atKey xs k).map (·.2)) (by rw [l]; exact rel.val k)
    obtain ⟨p, hp, hp2⟩ := Option.map_eq_some_iff.mp hw
    refine wpAny_getItem_heap (tupleKind_room_in1 hu) (key_of I.hok eb) dd hp ?_
    rw [hp2]
    exact h w' _ (I.tok _) rw'
theorem d_notIn {Q : Value → Shared → Prop} (hu : A.units + 1 < cLine) (I : Inv X pins σ H s) (g : DGet H a y o) (ry : RelV y u) (h : ∀ s', Inv X pins σ H s' → Q (.bool (!o.isSome)) s') :
    wpAny (model X.prog X.w) A (compareOp .NotIn u (.ref a)) Q E s := by
  rcases g with ⟨kvs, k, e, ey, l⟩ | ⟨kvs, k, b, e, ey, eb, l⟩
  · subst ey
    obtain ⟨z, hd, vs, rel, dd⟩ := dk_rd I.hok e
    refine wpAny_notIn_of (kV_is ry) hd dd.mapOf ?_
    rw [← (rel.val k).isSome_eq, ← l]
    exact h _ (I.tok _)
  · subst ey
    cases (show u = Value.ref b from ry)
    obtain ⟨z, hd, xs, rel, dd⟩ := dt_rd I.hok e
    refine wpAny_notIn_heap (tupleKind_room_in1 hu) (key_of I.hok eb) hd dd ?_
    have q := (rel.val k).isSome_eq
    rw [Option.isSome_map] at q
    rw [← q, ← l]
    exact h _ (I.tok _)
theorem d_write {h' : Heap} {t' : Nat} {ob : HO} (I : Inv X pins σ H s) (mu : Mut (H a)) (hs : Heap.SameBut a s.heap h') (he : ∃ q, h'.get? a = some q) (new : ObjOk X.prog X.w (upd H a ob) h' a ob) :
    Inv X pins σ (upd H a ob) { s with heap := h', toks := t' } :=
  I.write (x := a) (e := a) mu (.inl rfl) (fun b q hb z => (hs.2 b hb).trans z) he new
theorem dk_new {P : Program} {w : World} {H' : Hp} {h' : Heap} {kvs : List (Key × V)} {vs : List (Key × Value)} (z : kvs.length ≤ sizeLine) (hd : (a == sysModules) = false) (rel : KV kvs vs) (dd : h'.DictOf (mixKind P w) a vs) :
    ObjOk P w H' h' a (.dK kvs) := ⟨z, hd, vs, rel, dd⟩
theorem d_setItem {H' : Hp} {Q : Unit → Shared → Prop} (hu : A.units + 1 < cLine) (I : Inv X pins σ H s) (g : DPut H a y v H') (ry : RelV y u) (rv : RelV v r) (h : ∀ s', Inv X pins σ H' s' → Q () s') :
    wpAny (model X.prog X.w) A (setItem (.ref a) u r) Q E s := by
  rcases g with ⟨kvs, k, e, ey, l, eH⟩ | ⟨kvs, k, b, e, ey, eb, l, eH⟩
  · subst ey eH
    obtain ⟨z, hd, vs, rel, dd⟩ := dk_of I.hok e
    have hz : vs.length ≤ sizeLine := by rw [← rel.length]; exact z
    have hl : (putK kvs k v).length ≤ sizeLine := by have := length_putK kvs k v; omega
    refine wpAny_setItem_pairs (hsz := hz) (kV_is ry) dd fun h' dd' hs => h _ ?_
    have he : ∃ q, h'.get? a = some q := let ⟨q, _, _, hq, _⟩ := dd'; ⟨q, hq⟩
    exact d_write I (by rw [e]; exact True.intro) hs he (dk_new hl hd (rel.put k rv) dd')
  · subst ey eH
    cases (show u = Value.ref b from ry)
    obtain ⟨z, hd, xs, rel, dd⟩ := dt_of I.hok e
    have hz : xs.length ≤ sizeLine := by rw [← Paired.length rel]; exact z
    have hl : (putK kvs k v).length ≤ sizeLine := by have := length_putK kvs k v; omega
    refine wpAny_setItem_heap (hsz := hz) (tupleKind_room_in1 hu) (key_of I.hok eb) dd fun h' dd' hs => h _ ?_
    obtain ⟨q, es, ep, hq, h2, h3, h4, _, h5⟩ := dd'
    refine d_write I (by rw [e]; exact True.intro) hs ⟨q, hq⟩ ⟨hl, hd, _, (rel.put k eb rv).keeps fun c ys ec => ?_, q, es, ep, hq, h2, h3, h4, h5⟩
    rw [upd_ne (ne_of ec e (fun z => nomatch z))]
    exact ec
end
section
variable {X : Cx} {pins : List (Addr × Obj)} {σ : St} {H : Hp} {s : Shared} {a : Addr} {kvs : List (Key × V)} {k : Key} {u : Value} {A : Around} {E : Value → Shared → Prop}
end
def NoSl (i : Expr) : Prop := ∀ ov iv, subscripted i false ov iv = operate [ov, iv] (getItem ov iv)
theorem subD_of {prog : Program} {w : World} {A : Around} {E : Value → Shared → Prop} {s : Shared} {env : Env} {value slice : Expr} {pos : Pos} {T id : String} {Q : Value → Shared → Prop}
    (hl : typeLookup (.type T) "__getitem__" = pure (some (.builtin id))) (hs : NoSl slice)
    (h : wpAny (model prog w) A (eval value env) (fun o s₁ => wpAny (model prog w) A (eval slice env) (fun i s₂ => s₂.TypeIs o T ∧ wpAny (model prog w) A (getItem o i) Q E s₂) E s₁) E s) :
    wpAny (model prog w) A (eval (.Subscript value slice pos) env) Q E s := by
  refine Subscript_ (wpAny_mono h (fun o s₁ h₁ => wpAny_mono h₁ (fun i s₂ h₂ => ?_) fun _ _ x => x) fun _ _ x => x)
  obtain ⟨hT, h₂⟩ := h₂
  unfold subscriptTail
  refine wpAny_bind ?_
  rw [getitemInPython_of_ne hT.not_modules]
  refine wpAny_bind (wpAny_specialOf hT hl ?_)
  have fin : wpAny (model prog w) A (subscripted slice false o i) (fun r s₃ => wpAny (model prog w) A (letTemporaryGo value o r >>= fun _ => pure r) Q E s₃) E s₂ := by
    rw [hs o i]
    exact wpAny_operating (wpAny_mono h₂ (fun r s₃ h₃ => wpAny_bind (wpAny_letTemporaryGo (wpAny_pure h₃))) fun _ _ x => x)
  first
    | exact wpAny_pure (wpAny_bind fin)
    | exact wpAny_bind (wpAny_pure (wpAny_bind fin))
    | exact wpAny_bind fin
theorem dict_typeIs {X : Cx} {pins : List (Addr × Obj)} {σ : St} {H : Hp} {s : Shared} {a : Addr} {y : V} {o : Option V} (I : Inv X pins σ H s) (g : DGet H a y o) : s.TypeIs (.ref a) "dict" := by
  rcases g with ⟨kvs, k, e, _, _⟩ | ⟨kvs, k, b, e, _, _, _⟩
  · obtain ⟨_, _, vs, _, dd⟩ := dk_rd I.hok e
    exact dd.typeIs
  · obtain ⟨_, _, xs, _, dd⟩ := dt_rd I.hok e
    exact dd.typeIs
def tDGet (td ty : TE) : TE := fun σ H Q => td σ H fun x H1 => ty σ H1 fun y H2 => ∃ a v, x = .ref a ∧ DGet H2 a y (some v) ∧ Q v H2
def tDNotIn (ty td : TE) : TE := fun σ H Q => ty σ H fun y H1 => td σ H1 fun x H2 => ∃ a o, x = .ref a ∧ DGet H2 a y o ∧ Q (.bl (!o.isSome)) H2
def sDPut (td ty tv : TE) : TS := fun D σ H => tv σ H fun v H1 => td σ H1 fun x H2 => ty σ H2 fun y H3 => ∃ a H4, x = .ref a ∧ DPut H3 a y v H4 ∧ D.nx σ H4
section
variable {X : Cx} {o i e value : Expr} {pos pos' tpos : Pos} {td ty tv : TE}
theorem pe_dget (hu : X.A.units + 1 < cLine) (ho : PE X o td) (hi : PE X i ty) (hs : NoSl i) : PE X (.Subscript o i pos) (tDGet td ty) := by
  intro pins s σ H Q I h
  refine subD_of PySem.F.slot_dict_getitem.lookup hs (thn (ho pins s σ H _ I h) fun u s1 hm0 => ?_)
  obtain ⟨x, H1, I1, rx, q1⟩ := hm0
  refine thn (hi pins s1 σ H1 _ I1 q1) fun iv s2 hm1 => ?_
  obtain ⟨y, H2, I2, ry, a, v, ex, g, q2⟩ := hm1
  subst ex
  obtain rfl : u = Value.ref a := rx
  exact ⟨dict_typeIs I2 g, d_getItem hu I2 g ry fun w' s3 I3 rw' => ⟨v, H2, I3, rw', q2⟩⟩
theorem pc_dnotin (hu : X.A.units + 1 < cLine) (hi : PE X i ty) (ho : PE X o td) : PC X .NotIn i o (tDNotIn ty td) := by
  intro pins s σ H Q I h
  refine thn (hi pins s σ H _ I h) fun iv s1 hm0 => ?_
  obtain ⟨y, H1, I1, ry, q1⟩ := hm0
  refine thn (ho pins s1 σ H1 _ I1 q1) fun u s2 hm1 => ?_
  obtain ⟨x, H2, I2, rx, a, ov, ex, g, q2⟩ := hm1
  subst ex
  obtain rfl : u = Value.ref a := rx
  exact d_notIn hu I2 g ry fun s3 I3 => ⟨.bl (!ov.isSome), H2, I3, rfl, q2⟩
theorem ps_dput (hu : X.A.units + 1 < cLine) (ho : PE X o td) (hi : PE X i ty) (hv : PE X value tv) (hs : swapsWith value (some (.Subscript o i pos')) pos.line X.env = pure false) :
    PS X (.Assign [.Subscript o i pos'] value pos) (sDPut td ty tv) := by
  intro pins s σ H D I h
  refine wpAny_Assign_Subscript (thn (hv pins s σ H _ I h) fun r s1 hm0 => ?_) hs
  obtain ⟨v, H1, I1, rv, q1⟩ := hm0
  refine thn (ho pins s1 σ H1 _ I1 q1) fun u s2 hm1 => ?_
  obtain ⟨x, H2, I2, rx, q2⟩ := hm1
  refine thn (hi pins s2 σ H2 _ I2 q2) fun iv s3 hm2 => ?_
  obtain ⟨y, H3, I3, ry, a, H4, ex, g, q3⟩ := hm2
  subst ex
  obtain rfl : u = Value.ref a := rx
  exact d_setItem hu I3 g ry rv fun s4 I4 => ⟨σ, H4, I4, q3⟩
end
theorem dk_empty {P : Program} {w : World} {H : Hp} (h : Heap) (hb : sysModules < h.objs.size) : ObjOk P w H (h.push { cls := .type "dict", data := .dict #[] }) h.objs.size (.dK []) :=
  ⟨Nat.zero_le _, beq_eq_false_iff_ne.mpr (Ne.symm (Nat.ne_of_lt hb)), [], .nil, Heap.DictOf.new h⟩
theorem dt_empty {P : Program} {w : World} {H : Hp} (h : Heap) (hb : sysModules < h.objs.size) : ObjOk P w H (h.push { cls := .type "dict", data := .dict #[] }) h.objs.size (.dT []) :=
  ⟨Nat.zero_le _, beq_eq_false_iff_ne.mpr (Ne.symm (Nat.ne_of_lt hb)), [], .nil, _, #[], 0, Heap.get?_push_size _ rfl, ⟨rfl, rfl, rfl⟩, rfl, rfl, List.nodup_nil⟩
section
variable {X : Cx} {pos : Pos}
end
def tPairs : List (TE × TE) → St → Hp → (List (V × V) → Hp → Prop) → Prop
  | [], _, H, Q => Q [] H
  | (tk, tv) :: r, σ, H, Q => tk σ H fun x H1 => tv σ H1 fun y H2 => tPairs r σ H2 fun ps H3 => Q ((x, y) :: ps) H3
abbrev VV : List (V × V) → List (Value × Value) → Prop := Paired fun p q => RelV p.1 q.1 ∧ RelV p.2 q.2
def PPs (X : Cx) (pos : Pos) (keys : List (Option Expr)) (values : List Expr) (trs : List (TE × TE)) : Prop :=
  ∀ (pins : List (Addr × Obj)) (s : Shared) (σ : St) (H : Hp) (Q : List (V × V) → Hp → Prop), Inv X pins σ H s → tPairs trs σ H Q →
    wpAny (model X.prog X.w) X.A (evalPairs (pairTrees keys values X.env pos)) (fun vs s' => ∃ ps H', Inv X pins σ H' s' ∧ VV ps vs ∧ Q ps H') X.xe s
theorem pps_nil {X : Cx} {pos : Pos} : PPs X pos [] [] [] := fun pins s σ H Q I h => pairTrees_nil_walk ⟨[], H, I, .nil, h⟩
theorem pps_cons {X : Cx} {pos : Pos} {k v : Expr} {ks : List (Option Expr)} {vs : List Expr} {tk tv : TE} {trs : List (TE × TE)} (hk : PE X k tk) (hv : PE X v tv) (hr : PPs X pos ks vs trs) :
    PPs X pos (some k :: ks) (v :: vs) ((tk, tv) :: trs) := fun pins s σ H Q I h =>
  pairTrees_cons_walk (thn (hk pins s σ H _ I h) fun u s1 ⟨x, H1, I1, rx, q1⟩ => thn (hv pins s1 σ H1 _ I1 q1) fun w2 s2 ⟨y, H2, I2, ry, q2⟩ =>
    thn (hr pins s2 σ H2 _ I2 q2) fun ws s3 ⟨ps, H3, I3, rel, q3⟩ => ⟨(x, y) :: ps, H3, I3, .cons ⟨rx, ry⟩ rel, q3⟩)
def mergeK (kvs more : List (Key × V)) : List (Key × V) := more.foldl (fun acc kv => putK acc kv.1 kv.2) kvs
theorem KV.merge : ∀ {more : List (Key × V)} {rs : List (Key × Value)} {kvs : List (Key × V)} {vs : List (Key × Value)}, KV more rs → KV kvs vs → KV (mergeK kvs more) (merged vs rs) := by
  intro more rs kvs vs r
  unfold KV at r
  induction r generalizing kvs vs with
  | nil => intro q; exact q
  | @cons p q ps qs h t ih =>
    intro r0
    have e : KV (putK kvs p.1 p.2) (stored vs q.1 q.2) := by
      have := r0.put p.1 h.2
      rw [← h.1]; exact this
    exact ih e
theorem length_mergeK : ∀ (more kvs : List (Key × V)), (mergeK kvs more).length ≤ kvs.length + more.length
  | [], kvs => by show kvs.length ≤ kvs.length + 0; omega
  | p :: r, kvs => by
    have h1 := length_mergeK r (putK kvs p.1 p.2)
    have h2 := length_putK kvs p.1 p.2
    show (mergeK (putK kvs p.1 p.2) r).length ≤ _
    rw [List.length_cons]; omega
theorem carries_of {P : Program} {w : World} : ∀ {kvs : List (Key × V)} {ws : List (Value × Value)}, VV (kvs.map fun kv => (kV kv.1, kv.2)) ws → ∃ rs, Carries (mixKind P w) ws rs ∧ KV kvs rs
  | [], _, r => by rw [List.map_nil] at r; cases r; exact ⟨[], True.intro, .nil⟩
  | p :: kvs, _, r => by
    rw [List.map_cons] at r
    cases r with
    | @cons a b as bs h t =>
      obtain ⟨rs, c, q⟩ := carries_of (P := P) (w := w) t
      obtain ⟨b1, b2⟩ := b
      exact ⟨(p.1, b2) :: rs, ⟨kV_is h.1, rfl, c⟩, .cons ⟨rfl, h.2⟩ q⟩
def tDisp (trs : List (TE × TE)) : TE := fun σ H Q => ∀ p, H p = none → tPairs trs σ (upd H p (.dK [])) fun ps H2 => H2 p = some (.dK []) ∧ ∃ kvs : List (Key × V), ps = kvs.map (fun kv => (kV kv.1, kv.2)) ∧ kvs.length ≤ 15 ∧ Q (.ref p) (upd H2 p (.dK (mergeK [] kvs)))
theorem pe_disp {X : Cx} {pos : Pos} {keys : List (Option Expr)} {values : List Expr} {trs : List (TE × TE)} (h : PPs X pos keys values trs) (hall : keys.all (·.isSome) = true) (hl : keys.length = values.length) (h0 : keys ≠ [])
    (h15 : keys.length ≤ 15) : PE X (.Dict keys values pos) (tDisp trs) := by
  intro pins s σ H Q I q
  have hn := I.hok.fresh (Nat.le_refl s.heap.objs.size)
  have I1 := I.laid (a := s.heap.objs.size) (o := .dK []) (h' := s.heap.push { cls := .type "dict", data := .dict #[] }) (t' := s.toks) (fun _ _ q => Heap.get?_push_of_some _ q) (Nat.le_refl _) (dk_empty s.heap I.big)
  refine wpAny_Dict_walk (knd := mixKind X.prog X.w) hall hl h0 h15 (thn (h pins _ σ _ _ I1 (q _ hn)) fun ws s2 hm0 => ?_)
  obtain ⟨ps, H2, I2, rel, e, kvs, ep, lk, q2⟩ := hm0
  subst ep
  obtain ⟨rs, c, rk⟩ := carries_of (P := X.prog) (w := X.w) rel
  obtain ⟨z, hd, vs0, r0, dd⟩ := dk_of I2.hok e
  cases r0
  refine ⟨rs, c, dd, fun h' dd' hs => ⟨.ref s.heap.objs.size, _, ?_, rfl, q2⟩⟩
  have hz : (mergeK [] kvs).length ≤ sizeLine := by
    have h1 := length_mergeK kvs []
    rw [List.length_nil] at h1
    rw [sizeLine_eq]; omega
  have he : ∃ q, h'.get? s.heap.objs.size = some q := let ⟨q, _, _, hq, _⟩ := dd'; ⟨q, hq⟩
  exact d_write I2 (by rw [e]; exact True.intro) hs he (dk_new hz hd (rk.merge .nil) dd')
structure M2 (X : Cx) (o : Expr) (m : Str) (apos : Pos) (e f : Expr) (cpos : Pos) : Prop where
  base : attributeBase o m X.env (eval o X.env) = eval o X.env
  few : ((backTo cpos (starEach [e, f] X.env)).all (fun x => !x.1) && (backToKw cpos (keywordEach [] X.env)).all (fun x => x.1.isSome)
    && decide (([e, f] : List Expr).length + ([] : List Keyword).length + (if ([] : List Keyword).isEmpty then 0 else 1) < 30)) = true
  line : (apos.endLine == cpos.line) = true
  trees : backTo cpos (starEach [e, f] X.env) = [(false, eval e X.env), (false, eval f X.env)]
section
variable {X : Cx} {pins : List (Addr × Obj)} {σ : St} {H : Hp} {s : Shared} {a : Addr} {y d : V} {u r : Value} {o : Option V} {A : Around} {E : Value → Shared → Prop}
end
section
variable {X : Cx} {o e f : Expr} {apos cpos : Pos} {td ty tx : TE}
end
section
variable {X : Cx} {pins : List (Addr × Obj)} {σ : St} {H : Hp} {s : Shared} {a : Addr} {kvs : List (Key × V)} {A : Around} {E : Value → Shared → Prop}
end
section
variable {X : Cx} {pins : List (Addr × Obj)} {σ : St} {H : Hp} {s : Shared} {a : Addr} {y : V} {u : Value} {A : Around} {E : Value → Shared → Prop}
end
end L2
namespace Att
open PySem PySem.W PySem.Calls PyProof.Rows
theorem ints_of_wellAll {P : Params} {h : Heap} : ∀ (ns : List Int) (vs : List Value), WellAll P h vs (ns.map WData.int) → IntsAre vs ns := by
  intro ns
  induction ns with
  | nil =>
    intro vs w
    rw [List.map_nil] at w
    cases w
    exact .nil
  | cons n ns ih =>
    intro vs w
    rw [List.map_cons] at w
    cases w with
    | cons a b =>
      cases a
      exact .cons _ _ (ih _ b)
theorem script_of {l : OpenLaw} {n : Nat} (hn : l.most = some n) {P : Params} {h : Heap} {args : List WData} {vals : List Value}
    (hpre : l.row.toRowW.claim.pre args = true) (hwl : WellAll P h vals args) :
    ∃ a vs ns, vals = [Value.ref a] ∧ args = [WData.list (ns.map WData.int)] ∧ h.get? a = some { cls := .type "list", data := .seq vs.toArray } ∧ IntsAre vs ns ∧ ns.length ≤ n := by
  have hsh : WShape.hasAll [] args [.list .int] = true := (pre_splitW hpre).1
  have hc : l.pre.holds [] { args := args } = true := (pre_splitW hpre).2
  obtain ⟨d, r, rfl, h1, h2⟩ := hasAllW_cons hsh
  obtain rfl := hasAllW_nil h2
  obtain ⟨xs, rfl, h3⟩ := hasW_list h1
  obtain ⟨ns, rfl⟩ := items_int h3
  have hlen : ns.length ≤ n := by
    unfold OpenLaw.pre at hc
    have h4 : (WTm.not (.lt (.lit (.int (n : Int))) (.len (.arg 0)))).holds [] { args := [.list (ns.map .int)] } = true := by
      have h4 := (holds_andW hc).1
      rw [hn] at h4
      exact h4
    have h5 := condW_of h4 (w_not (w_lt w_lit (w_len_list (w_arg rfl))))
    rw [List.length_map] at h5
    refine Nat.le_of_not_lt fun q => ?_
    have q' : (n : Int) < ((ns.length : Nat) : Int) := by omega
    first
      | (rw [decide_eq_true q'] at h5; exact absurd h5 (by decide))
      | (simp at h5; omega)
  cases hwl with
  | cons w1 w2 =>
    cases w2
    cases w1 with
    | list ho hall => exact ⟨_, _, ns, rfl, rfl, ho, ints_of_wellAll ns _ hall, hlen⟩
theorem post_true (l : OpenLaw) (args : List WData) : l.row.toRowW.claim.post args (.bool true) args = true :=
  postW_of (r := l.row.toRowW) (X := (true == true))
    (show WShape.has [] (.bool true) .bool = true by first | rfl | decide | simp [WShape.has, WShape.arms, WShape.armsAll])
    (show (WTm.eq .res (.lit (.bool true))).value [] { args := args, res := some (.bool true), after := args } = some (.bool (true == true)) from w_eq_bool (w_res rfl) w_lit) rfl
theorem attach_call {l : OpenLaw} {n : Nat} {q : Program} {loose : List Str} {XP : (Str → Option Value) → Heap → Prop} {YP : World → Heap → Prop} {d : DefRec}
    (hn : l.most = some n) (hdf : d.params.defaults = [])
    (call : ∀ (w : World) (s₀ s₁ : Shared) (mg mb : Str → Option Value) (fa : Addr) (o : Obj) (pm cd doc : Value) (a : Addr) (vs : List Value) (ns : List Int),
      Ground q loose [] XP w s₀ mg mb s₁.heap → YP w s₁.heap →
      s₁.heap.get? fa = some o → o.data = .func (docDef d.name d.params d.body d.scope pm cd doc) → s₁.heap.CodeRec cd d.name → mg d.name = some (.ref fa) →
      s₁.heap.get? a = some { cls := .type "list", data := .seq vs.toArray } → IntsAre vs ns → ns.length ≤ n → s₁.gens = #[] →
      codeAny (model l.prog w) callerA (.call (.ref fa) ⟨[.ref a], []⟩) (fun r s' => r = .ok (.ret (.bool true)) ∧ OldK s₁.heap s'.heap ∧ s'.os = s₁.os ∧ AllBare s'.gens) s₁) :
    WalkO q loose XP YP l.row.toRowW d [] (fun f vs => PySem.call f vs) := by
  intro w s₀ s₁ mg mb G Y fa o pm cd doc dV kV ho hd hcd hD hmg hg args vals as hpre hlay hrd hwl hlo
  obtain rfl : dV = .none := Dflts.none hD hdf
  obtain rfl : kV = .none := Dflts.noKw hD
  obtain ⟨a, vs, ns, rfl, rfl, hobj, hints, hlen⟩ := script_of hn hpre hwl
  refine enter_call (codeAny_mono (call w s₀ s₁ mg mb fa o pm cd doc a vs ns G Y ho (fd_plain hd) hcd hmg hobj hints hlen hg) fun r s' hq => ?_)
  obtain ⟨rfl, h2, h3, h4⟩ := hq
  exact ⟨.inl ⟨.bool true, .bool true, [], rfl, fun _ => rfl, .bool true, post_true l _, fun _ => ⟨List.Pairwise.nil, fun _ hm => (nomatch hm)⟩⟩, h2, h3, h4⟩
section
variable {prog : Program} {w : World} {A : Around} {E : Value → Shared → Prop} {s : Shared} {K : Frag}
end
end Att
namespace L2
open PySem PySem.Spec PyProof.Rows
theorem vals_ints : ∀ {vs : List Value} {ns : List Int}, IntsAre vs ns → Vals (ns.map V.int) vs
  | _, _, .nil => .nil
  | _, _, .cons n t h => .cons ⟨t, rfl⟩ (vals_ints h)
def Only (H : Hp) : Prop := ∀ b, H b = none ∨ ∃ o xs, H b = some (.frz o (.lst xs))
theorem law_call {P : Program} {w : World} {K : PySem.W.Frag} {mg mb : Str → Option Value} {CX : CXT} {k : Nat} {fa a : Addr} {fd : FuncData} {x : Str} {sp : Sp} {s₁ : Shared} {vs : List Value} {ns : List Int}
    (KX : K.In s₁.heap) (hns : s₁.heap.Ns mainGlobals mg) (hb : s₁.heap.Ns builtinsNs mb) (hbb : ∀ x : Str, x ≠ "__name__" → mb x = bootBuiltins x) (hlim : s₁.heap.NoLimit) (hg : s₁.gens = #[])
    (ha : s₁.heap.get? a = some { cls := .type "list", data := .seq vs.toArray }) (hi : IntsAre vs ns) (hl : ns.length ≤ sizeLine) (hr : Room k callerA)
    (F : ∀ base : Heap, K.In base → base.Ns mainGlobals mg → FnOk P w K mg base CX k fa fd [x] sp) (hbind : ∀ (s : Shared) (u : Value), BindsTo s fd ⟨[u], []⟩ [(x, u)])
    (hsp : ∀ H : Hp, Only H → SqL K H a (ns.map V.int) → sp [.ref a] H (fun v _ => v = .bl true) fun _ _ _ => False)
    (hCX : ∀ H e s', CX [] H s₁ (fun _ _ _ => False) e s' → False) :
    codeAny (model P w) callerA (.call (.ref fa) ⟨[.ref a], []⟩) (fun r s' => r = .ok (.ret (.bool true)) ∧ OldK s₁.heap s'.heap ∧ s'.os = s₁.os ∧ AllBare s'.gens) s₁ := by
  have rv := vals_ints hi
  have lenV := hi.length
  have core : ∀ H : Hp, Only H → SqL K H a (ns.map V.int) → HOk P w H s₁.heap → (∀ b, H b ≠ none → b = a) → (H a ≠ none → K.lookup a = none) →
      codeAny (model P w) callerA (.call (.ref fa) ⟨[.ref a], []⟩) (fun r s' => r = .ok (.ret (.bool true)) ∧ OldK s₁.heap s'.heap ∧ s'.os = s₁.os ∧ AllBare s'.gens) s₁ := by
    intro H hO hS hok hA hK
    have base_of : ∀ {b : Addr} {o : Obj}, s₁.heap.get? b = some o → H b = none → (hidT s₁.heap H).get? b = some o := fun e n => hidT_get e n
    have noA : ∀ {b : Addr} {o : Obj} {es : Array DictEntry} {ep : Nat}, s₁.heap.get? b = some o → o.data = .dict es ep → H b = none := fun {b o es ep} e d => by
      cases q : H b with
      | none => rfl
      | some u =>
        have e' : b = a := hA b (by rw [q]; simp)
        subst e'
        rw [ha] at e; cases e
        have d' : Data.seq vs.toArray _ = Data.dict es ep := d
        cases d'
    have nsK : ∀ {b : Addr} {m : Str → Option Value}, s₁.heap.Ns b m → (hidT s₁.heap H).Ns b m := fun {b m} ⟨o, es, ep, e, d, r⟩ => ⟨o, es, ep, base_of e (noA e d), d, r⟩
    have hKb : K.In (hidT s₁.heap H) := fun b o e => base_of (KX b o e) (by
      cases q : H b with
      | none => rfl
      | some u =>
        have e' : b = a := hA b (by rw [q]; simp)
        subst e'
        rw [hK (by rw [q]; simp)] at e; cases e)
    have hM : Mod K mg (hidT s₁.heap H) := ⟨hKb, nsK hns, ⟨mb, nsK hb, hbb⟩, let ⟨mc, h1, h2⟩ := hlim; ⟨mc, nsK h1, h2⟩⟩
    have e0 : Env0 P w K mg (hidT s₁.heap H) callerA [] s₁ H := ⟨rfl, hM, fun b o e => of_hidT e, Nat.le_of_eq (hidT_size _ _), trivial, fun b hb => absurd (show b ∈ ([] : List Addr) from hb) (by simp), hok, .of_eq hg⟩
    refine codeAny_mono ((F _ hKb (nsK hns)).run callerA [] s₁ H ⟨[.ref a], []⟩ [.ref a] [.ref a] _ _ hr e0 (hbind s₁ (.ref a)) (.cons rfl .nil) (hsp H hO hS)) fun r s' h => ?_
    cases r with
    | error e => exact (hCX H e s' h).elim
    | ok fl =>
      cases fl with
      | next => exact False.elim h
      | brk => exact False.elim h
      | cont => exact False.elim h
      | ret u =>
        obtain ⟨v, H', os, bare, un, hok', r', q⟩ := h
        have q' : v = .bl true := q
        subst q'
        obtain rfl : u = Value.bool true := r'
        refine ⟨rfl, OldK.of_keep fun b o e => ?_, os, bare⟩
        cases q : H b with
        | none => exact un.keep b o e q (by intro z; exact absurd (show b ∈ ([] : List Addr) from z) (by simp)) (by simp)
        | some u =>
          rcases hO b with z | ⟨ob, xs, z⟩
          · rw [q] at z; cases z
          · have z2 := un.frzs b ob _ z
            obtain ⟨e1, _⟩ := hok b _ z
            obtain ⟨e2, _⟩ := hok' b _ z2
            rw [e] at e1; cases e1
            exact e2
  cases hk : K.lookup a with
  | some o =>
    have e := KX a o hk
    rw [ha] at e
    cases e
    refine core (fun _ => none) (fun _ => .inl rfl) (.inr ⟨_, vs.toArray, _, hk, rfl, rfl, rfl, by rw [List.size_toArray, lenV]; exact hl, by simpa using rv⟩) (fun b u z => by have z' : (none : Option HO) = some u := z; cases z') (fun b z => absurd rfl z) fun z => absurd rfl z
  | none =>
    refine core (fun b => if b = a then some (.frz { cls := .type "list", data := .seq vs.toArray } (.lst (ns.map V.int))) else none) (fun b => ?_) (.inl (.inr ⟨{ cls := .type "list", data := .seq vs.toArray }, if_pos rfl⟩)) (fun b u z => ?_) (fun b z => ?_) fun _ => hk
    · by_cases hb : b = a
      · exact .inr ⟨_, _, if_pos hb⟩
      · exact .inl (if_neg hb)
    · by_cases hb : b = a
      · have z' := (if_pos hb).symm.trans z
        cases z'
        subst hb
        exact ⟨ha, by rw [List.length_map]; exact hl, vs, _, rv, ha⟩
      · have z' := (if_neg hb).symm.trans z
        cases z'
    · by_cases hb : b = a
      · exact hb
      · exact absurd (if_neg hb) z
end L2
namespace L2
open PySem PySem.Spec PyProof.Rows
end L2
/- THE LAST THEOREM (shape; LID, My.* are yours):
   My.Adr: a structure of the addresses that your layer names (classes, functions); My.Txt K t: a structure (Prop) of the equations over K;
   My.txt_mk : {K} {implicit addresses ..} (e1 : nsIn K mainGlobals "law" = some (some (.ref f))) (e2 : K.lookup f = some ⟨oc, od, .func (fnOf "law" "law" params body scope dV kV doc pm an cdv ct), sl⟩) (e3 : codeIn K cdv "law" = true) .. : ∃ t, My.Txt K t
set_option maxRecDepth 100000 in
set_option maxHeartbeats 0 in
theorem PySem.Challenge.cw_LID_holds : PySem.Challenge.rw_LID.Holds := by
  w_on; o_law; k_head; (case hw => w_witness2)
  k_fill
  refine L2.walk_of (l := PySem.Challenge.rw_LID) (n := 63) (k := 40) (x := "script") (CX := fun w => ..) (sp := fun _ => My.sp_law) rfl (by decide) rfl ⟨rfl, by decide, by decide⟩ (fun w h Y => PySem.W.kIn_of Y) ?F ?S ?C
  case F =>
    intro w mg fa h KX G hmg
    have T : ∃ t, My.Txt (L2.KOf KX) t := by
      dsimp only [L2.KOf]                          -- K must stand as «<heap const> w.params» for k_is
      refine' My.txt_mk ?e1 ?e2 ?e3 ..
      (case e1 => PySem.W.k_is)                    -- in the order: a name -> its address -> its object -> its parts
      (case e2 => PySem.W.k_is)
      ..
    obtain ⟨t, T⟩ := T
    have e0 := hmg.symm.trans (PySem.W.mg_of KX G T.law)
    cases e0                                       -- fa is the law's own address
    exact ⟨_, fun s u => .of_eq rfl, fun base kb nb => My.law_fn T kb nb⟩     -- if «.of_eq rfl» comes too early: refine' ⟨_, ?b, fun base kb nb => My.law_fn T kb nb⟩; exact fun s u => .of_eq rfl
  case S => exact fun w H a ns hl hO hS => ..
  case C => exact ..
(the tactic k_is has no namespace: write k_is) -/
namespace L2
open PySem PySem.Spec PyProof.Rows
def defArgs (s : Stmt) : Arguments := match s with
  | .FunctionDef _ a _ _ _ _ _ _ _ _ => a
  | _ => { posonlyargs := [], args := [], vararg := none, kwonlyargs := [], kw_defaults := [], kwarg := none, defaults := [] }
def defBody (s : Stmt) : List Stmt := match s with
  | .FunctionDef _ _ b _ _ _ _ _ _ _ => b
  | _ => []
def defScope (s : Stmt) : Scope := match s with
  | .FunctionDef _ _ _ _ _ _ sc _ _ _ => sc
  | _ => { kind := .function, names := [], isGenerator := false, isCoroutine := false }
abbrev CX0 : CXT := fun _ _ _ _ _ _ => False
abbrev E0 : XK := fun _ _ _ => False
theorem pass0 {X : Cx} : Passes CX0 X E0 := fun _ _ _ _ _ _ _ h => h.elim
structure Fun (K : PySem.W.Frag) (x qual : Str) (st : Stmt) (f : Addr) (fd : FuncData) : Prop where
  ex : ∃ (oc : Value) (od : Option Addr) (kV doc pm : Value) (an : Option Addr) (cdv ct : Value) (osl : Array (Option Value)),
    fd = PySem.W.fnOf x qual (defArgs st) (defBody st) (defScope st) .none kV doc pm an cdv ct ∧ K.lookup f = some ⟨oc, od, .func fd, osl⟩ ∧ PySem.W.codeIn K cdv qual = true
  kp : PySem.W.keepIn K (.ref f) = true
section
variable {P : Program} {w : World} {K : PySem.W.Frag} {mg : Str → Option Value} {base : Heap}
theorem Fun.ok {x qual : Str} {st : Stmt} {f : Addr} {fd : FuncData} {N ps : List Str} {k : Nat} {sp : Sp} (F : Fun K x qual st f fd) (S : FnScope N ps (defScope st)) (len : ∀ vs H Q E, sp vs H Q E → vs.length = ps.length)
    (hbody : ∀ (cdv : Value) (A : Around) (outer : List Env) (s : Shared) (H : Hp) (vs : List V) (Q : VK) (E : XK), Room k (A.deeper (envOfC qual (defScope st) s.heap.objs.size f cdv)) → sp vs H Q E →
      ∃ t, PSs (cxOf CX0 P w K mg base N qual (defScope st) f cdv A outer s H E).nox (defBody st) t ∧ t { nx := fun _ H' => Q .non H', rt := Q } (start N vs) H) : FnOk P w K mg base CX0 (k + 1) f fd ps sp := by
  obtain ⟨oc, od, kV, doc, pm, an, cdv, ct, osl, rfl, lk, hcd⟩ := F.ex
  refine fn_of lk hcd S len fun A outer s H vs Q E hr hsp => ?_
  obtain ⟨t, h, q⟩ := hbody cdv A outer s H vs Q E hr hsp
  exact ⟨t, h.nox, q⟩
theorem Fun.binds {x qual : Str} {st : Stmt} {f : Addr} {fd : FuncData} {ps : List Str} (F : Fun K x qual st f fd)
    (h : ∀ (kV doc pm : Value) (an : Option Addr) (cdv ct : Value) (us : List Value), us.length = ps.length → bindArgs (PySem.W.fnOf x qual (defArgs st) (defBody st) (defScope st) .none kV doc pm an cdv ct) ⟨us, []⟩ = pure (ps.zip us)) : Binds K fd ps [] := by
  obtain ⟨oc, od, kV, doc, pm, an, cdv, ct, osl, rfl, lk, hcd⟩ := F.ex
  exact .all (h kV doc pm an cdv ct)
theorem fun_mk {x qual : Str} {st : Stmt} {f : Addr} {oc : Value} {od an : Option Addr} {osl : Array (Option Value)} {kV doc pm cdv ct : Value} (l : K.lookup f = some ⟨oc, od, .func (PySem.W.fnOf x qual (defArgs st) (defBody st) (defScope st) .none kV doc pm an cdv ct), osl⟩)
    (c : PySem.W.codeIn K cdv qual = true) (k : PySem.W.keepIn K (.ref f) = true) : Fun K x qual st f (PySem.W.fnOf x qual (defArgs st) (defBody st) (defScope st) .none kV doc pm an cdv ct) := ⟨⟨oc, od, kV, doc, pm, an, cdv, ct, osl, rfl, l, c⟩, k⟩
end
section
variable {X : Cx}
theorem pv (i : Nat) {x : Str} {pos : Pos} (hN : X.N[i]? = some x := by rfl) (hv : Vis X.env.scope x := by first | exact Or.inl rfl | exact Or.inr (Or.inl rfl) | exact Or.inr (Or.inr rfl)) (hd : (x == ("__debug__" : Str)) = false := by decide)
    (hcd : (x == ("__classdict__" : Str)) = false := by decide) : PE X (.Name x pos) (tVar i) := pe_var hN hv hd hcd
end
theorem iteF {A B : Prop} (h : B) : if false = true then A else B := by
  rw [if_neg Bool.false_ne_true]
  exact h
theorem iteT {A B : Prop} (h : A) : if true = true then A else B := by
  rw [if_pos rfl]
  exact h
theorem ite2 {c A B : Prop} [Decidable c] (h1 : c → A) (h2 : ¬ c → B) : if c then A else B := by
  by_cases h : c
  · rw [if_pos h]
    exact h1 h
  · rw [if_neg h]
    exact h2 h
def Same (H H' : Hp) : Prop := ∀ b o, H b = some o → H' b = some o
theorem Same.refl (H : Hp) : Same H H := fun _ _ h => h
theorem Same.trans {H H1 H2 : Hp} (a : Same H H1) (b : Same H1 H2) : Same H H2 := fun c o h => b c o (a c o h)
theorem Same.free {H H' : Hp} (e : Same H H') {l : Addr} (h : H' l = Option.none) : H l = Option.none := by
  cases q : H l with
  | none => rfl
  | some o =>
    rw [e l o q] at h
    cases h
theorem Same.seq {K : PySem.W.Frag} {H H' : Hp} {a : Addr} {xs : List V} (e : Same H H') (h : SqL K H a xs) : SqL K H' a xs := by
  rcases h with (h | ⟨o, h⟩) | h
  · exact .inl (.inl (e _ _ h))
  · exact .inl (.inr ⟨o, e _ _ h⟩)
  · exact .inr h
section
variable {κ : Type} [DecidableEq κ]
end
end L2
set_option Elab.async false
set_option linter.all false
set_option maxRecDepth 100000
set_option maxHeartbeats 4000000
namespace L2
open PySem PySem.Spec PyProof.Rows
theorem clos_aux {env : Env} : ∀ (names : List (Str × NameKind)) (cs : List (Str × Addr)), (∀ x ∈ names, x.2 = .free → ∃ c, env.cells.lookup x.1 = some c) → (∀ x c, cs.lookup x = some c → env.cells.lookup x = some c) →
    ∃ cl : List (Str × Addr), (forIn names cs fun x r => if (x.snd == NameKind.free) = true then (do let a ← cellOf env x.fst; pure (ForInStep.yield ((x.fst, a) :: r)) : Sem (ForInStep (List (Str × Addr)))) else pure (ForInStep.yield r)) = pure cl ∧
      (∀ x c, cl.lookup x = some c → env.cells.lookup x = some c) ∧ ∀ x, ((x, NameKind.free) ∈ names ∨ ∃ c, cs.lookup x = some c) → ∃ c, cl.lookup x = some c
  | [], cs, _, h2 => ⟨cs, rfl, h2, fun x hx => hx.elim (fun z => nomatch z) id⟩
  | (n, k) :: r, cs, h1, h2 => by
    rw [List.forIn_cons]
    by_cases hk : k = .free
    · subst hk
      obtain ⟨c, hc⟩ := h1 (n, .free) List.mem_cons_self rfl
      obtain ⟨cl, e, q1, q2⟩ := clos_aux r ((n, c) :: cs) (fun x hx => h1 x (List.mem_cons_of_mem _ hx)) (fun x d hd => by
        rw [List.lookup_cons] at hd
        split at hd
        · rename_i hx
          cases hd
          have : x = n := by simpa using hx
          subst this; exact hc
        · exact h2 x d hd)
      refine ⟨cl, ?_, q1, fun x hx => q2 x ?_⟩
      · simp only [beq_self_eq_true, if_true]
        rw [show cellOf env n = pure c by unfold cellOf; rw [hc]]
        simp only [pure_bind]
        exact e
      · rcases hx with hx | ⟨d, hd⟩
        · rcases List.mem_cons.mp hx with z | z
          · cases z
            exact .inr ⟨c, by rw [List.lookup_cons]; simp⟩
          · exact .inl z
        · refine .inr ?_
          rw [List.lookup_cons]
          split
          · exact ⟨_, rfl⟩
          · exact ⟨d, hd⟩
    · obtain ⟨cl, e, q1, q2⟩ := clos_aux r cs (fun x hx => h1 x (List.mem_cons_of_mem _ hx)) h2
      have hb : (k == NameKind.free) = false := by simpa using hk
      refine ⟨cl, ?_, q1, fun x hx => q2 x ?_⟩
      · simp only [hb, Bool.false_eq_true, if_false, pure_bind]
        exact e
      · rcases hx with hx | hx
        · rcases List.mem_cons.mp hx with z | z
          · cases z; exact absurd rfl hk
          · exact .inl z
        · exact .inr hx
theorem clos_of {env : Env} {scope : Scope} (h : ∀ x ∈ scope.names, x.2 = .free → ∃ c, env.cells.lookup x.1 = some c) :
    ∃ cl : List (Str × Addr), closureFor scope env = pure cl ∧ (∀ x c, cl.lookup x = some c → env.cells.lookup x = some c) ∧ ∀ x, (x, NameKind.free) ∈ scope.names → ∃ c, cl.lookup x = some c := by
  obtain ⟨cl, e, q1, q2⟩ := clos_aux scope.names [] h (fun x c z => by simp at z)
  refine ⟨cl, ?_, q1, fun x hx => q2 x (.inl hx)⟩
  simp only [closureFor]
  rw [e]
  rfl
theorem comp_loop {prog : Program} {w : World} {A : Around} {R : Result → Shared → Prop} {s : Shared} {elt target iter : Expr} {ifs : List Expr} {scope : Scope} {pos : Pos} {it acc : Value} {env : Env} (I : Nat → Shared → Prop)
    (turn : ∀ n s, I n s → wpAny (model prog w) A (pyNext it) (fun r s₁ => match r with
      | none => R (.ok .next) s₁
      | some v => wpAny (model prog w) A (letOwnedTupleGo target it v) (fun _ s₁' => wpAny (model prog w) A (assign target env v) (fun _ s₂ =>
          wpAny (model prog w) A (forIn ifs true fun c r => if r = true then do let ok ← isTrue c env (eval c env); pure (ForInStep.yield ok) else pure (ForInStep.yield r)) (fun ok s₃ =>
            if ok = true then wpAny (model prog w) A (eval elt env) (fun x s₄ =>
              wpAny (model prog w) A (call (.builtin "list.append") [acc, x]) (fun _ s₅ => ∃ m, m < n ∧ I m s₅) (fun _ _ => False) s₄) (fun _ _ => False) s₃
            else ∃ m, m < n ∧ I m s₃) (fun _ _ => False) s₂) (fun _ _ => False) s₁') (fun _ _ => False) s₁) (fun _ _ => False) s)
    (n : Nat) (h : I n s) :
    codeAny (model prog w) A (.compLoop (.ListComp elt [⟨target, iter, ifs, 0⟩] scope pos) 0 it acc env) R s := by
  refine codeAny_loop rfl I (fun n s hI => ?_) n h
  show wpAny _ A ((compTurn (.ListComp elt [⟨target, iter, ifs, 0⟩] scope pos) 0 it acc env).onRaise (fun x => do noteFrame x env; theTreesLotGoes x)) _ _ s
  refine wpAny_noted ?_
  rw [compTurn_list]
  refine wpAny_bind (wpAny_standAt (wpAny_bind (wpAny_mono (turn n s hI) (fun r s₁ h₁ => ?_) fun _ _ h' => h'.elim)))
  cases r with
  | none => exact wpAny_pure h₁
  | some v =>
    refine wpAny_bind (wpAny_mono h₁ (fun _ s₁' h₁' => ?_) fun _ _ h' => h'.elim)
    refine wpAny_bind (wpAny_mono h₁' (fun _ s₂ h₂ => wpAny_bind (wpAny_mono h₂ (fun ok s₃ h₃ => ?_) fun _ _ h' => h'.elim)) fun _ _ h' => h'.elim)
    cases ok with
    | false => exact wpAny_pure ⟨rfl, h₃⟩
    | true =>
      exact wpAny_bind (wpAny_bind (wpAny_mono h₃ (fun x s₄ h₄ => wpAny_bind (wpAny_mono h₄ (fun _ s₅ h₅ => wpAny_pure (wpAny_pure ⟨rfl, h₅⟩)) fun _ _ h' => h'.elim)) fun _ _ h' => h'.elim))
end L2
set_option maxRecDepth 100000
namespace L2
open PySem PySem.Spec PyProof.Rows
abbrev compCx (X : Cx) (scope : Scope) (N : List Str) (cl : List (Str × Addr)) (C : Addr) (s : Shared) (H : Hp) (ex : List Addr) (pn : List (Addr × Obj)) : Cx where
  prog := X.prog
  w := X.w
  K := X.K
  mg := X.mg
  base := X.base
  A := X.A
  N := N
  s₀ := s
  H₀ := H
  env := compEnvC scope cl C X.env
  outer := X.stack
  stack := X.stack
  ex := ex
  calm := X.calm
  fn := fun _ => false
  pn := pn
  xe := fun _ _ => False
def PTs (X : Cx) (ifs : List Expr) (t : TT) : Prop :=
  ∀ (pins : List (Addr × Obj)) (s : Shared) (σ : St) (H : Hp) (Q : Bool → Hp → Prop), Inv X pins σ H s → t σ H Q →
    wpAny (model X.prog X.w) X.A (forIn ifs true fun c r => if r = true then do let ok ← isTrue c X.env (eval c X.env); pure (ForInStep.yield ok) else pure (ForInStep.yield r)) (TP X pins σ Q) X.xe s
def tYes : TT := fun _ H Q => Q true H
theorem pts_nil {X : Cx} : PTs X [] tYes := fun _ _ _ H _ I h => wpAny_tests_nil ⟨H, I, h⟩
theorem pts_one {X : Cx} {c : Expr} {t : TT} (h : PT X c t) : PTs X [c] t := fun pins s σ H Q I hq => wpAny_tests_one (h pins s σ H Q I hq)
abbrev TTg := V → Hp → (List V → Prop) → Prop
def PTg (X : Cx) (k : Nat) (tg : Expr) (tt : TTg) : Prop :=
  ∀ (pins : List (Addr × Obj)) (s : Shared) (σ : St) (H : Hp) (v : V) (u : Value) (Q : List V → Prop), Inv X pins σ H s → k ≤ σ.length → RelV v u → tt v H Q →
    wpAny (model X.prog X.w) X.A (assign tg X.env u) (fun _ s' => ∃ ws, ws.length = k ∧ Q ws ∧ Inv X pins (ws.map some ++ σ.drop k) H s') X.xe s
def ttName : TTg := fun v _ Q => Q [v]
theorem ptg_name {X : Cx} {x : Str} {pos : Pos} (hN : X.N.Nodup) (hi : X.N[0]? = some x) (hx : X.env.scope.names.lookup x = some .local) : PTg X 1 (.Name x pos) ttName := by
  intro pins s σ H v u Q I hl r h
  refine wpAny_assign_Name (store_ok I hN hi (.inl hx) r (fun s' I' => ⟨[v], rfl, h, ?_⟩) (.inr hx))
  cases σ with
  | nil => simp at hl
  | cons a t => exact I'
end L2
set_option maxRecDepth 100000
set_option maxHeartbeats 400000
namespace L2
open PySem PySem.Spec PyProof.Rows
def ttTup (K : PySem.W.Frag) (n : Nat) : TTg := fun v H Q => ∃ a xs, v = .ref a ∧ SqT K H a xs ∧ xs.length = n ∧ Q xs
theorem set_two {α : Type} (a b : α) : ∀ (σ : List α), 2 ≤ σ.length → (σ.set 0 a).set 1 b = [a, b] ++ σ.drop 2
  | _ :: _ :: _, _ => rfl
theorem len_two {α : Type} : ∀ (xs : List α), xs.length = 2 → ∃ a b, xs = [a, b]
  | [a, b], _ => ⟨a, b, rfl⟩
theorem ptg_tup2 {X : Cx} {x y : Str} {p1 p2 pos : Pos} {k : Nat} (hc : X.calm = true) (hN : X.N.Nodup) (h0 : X.N[0]? = some x) (h1 : X.N[1]? = some y) (hx : X.env.scope.names.lookup x = some .local) (hy : X.env.scope.names.lookup y = some .local) :
    PTg X 2 (.Tuple [.Name x p1, .Name y p2] k pos) (ttTup X.K 2) := by
  have g : PG X (.Tuple [.Name x p1, .Name y p2] k pos) (gTup X.K 2 (gCons (gName 0) (gCons (gName 1) gNil))) := by
    have a1 : PG X (.Name x p1) (gName 0) := pg_name hN h0 (.inl hx) (.inr hx)
    have a2 : PG X (.Name y p2) (gName 1) := pg_name hN h1 (.inl hy) (.inr hy)
    have a3 : PGs X [.Name x p1, .Name y p2] (gCons (gName 0) (gCons (gName 1) gNil)) := pgs_cons a1 (pgs_cons a2 pgs_nil)
    exact pg_tup hc a3
  intro pins s σ H v u Q I hl r h
  obtain ⟨a, xs, rfl, hq, hlen, q⟩ := h
  obtain ⟨x0, x1, e⟩ := len_two xs hlen
  subst e
  have w : gTup X.K 2 (gCons (gName 0) (gCons (gName 1) gNil)) (.ref a) σ H (fun σ' H' => σ' = (σ.set 0 (some x0)).set 1 (some x1) ∧ H' = H) := ⟨a, [x0, x1], rfl, hq, rfl, x0, [x1], rfl, x1, [], rfl, rfl, rfl, rfl⟩
  refine thn (g pins s σ H _ _ _ I r w) ?_
  intro _ s' z
  obtain ⟨σ', H', I', e1, e2⟩ := z
  subst e2
  rw [set_two _ _ _ hl] at e1
  subst e1
  exact ⟨[x0, x1], rfl, q, I'⟩
end L2
set_option Elab.async false
set_option linter.all false
set_option maxRecDepth 100000
set_option maxHeartbeats 1000000
namespace L2
open PySem PySem.Spec PyProof.Rows
theorem HOk.adopt {P : Program} {w : World} {H : Hp} {h : Heap} {a : Addr} {o : HO} (x : HOk P w H h) (hn : H a = none) (new : ObjOk P w (upd H a o) h a o) : HOk P w (upd H a o) h := fun b u e => by
  by_cases hb : b = a
  · subst hb; rw [upd_same] at e; cases e; exact new
  · rw [upd_ne hb] at e
    exact (x b u e).stay (fun c v _ q => q) (fun c q => by rw [upd_ne (ne_of_none q hn)]; exact q) fun c xs q => by rw [upd_ne (ne_of_none q hn)]; exact q
theorem relabel_free {env : Env} {x : Str} : ∀ {names : List (Str × NameKind)}, names.lookup x = some .free →
    (names.map fun (n, k) => if (k == NameKind.free && env.scope.kind == .function && env.kindOf n == some .cell) then (n, NameKind.cell) else (n, k)).lookup x = some .cell ∨
    (names.map fun (n, k) => if (k == NameKind.free && env.scope.kind == .function && env.kindOf n == some .cell) then (n, NameKind.cell) else (n, k)).lookup x = some .free
  | [], h => by simp at h
  | (n, k) :: r, h => by
    have ih := @relabel_free env x r
    show (List.lookup x ((if (k == NameKind.free && env.scope.kind == .function && env.kindOf n == some .cell) = true then (n, NameKind.cell) else (n, k)) :: _) = _) ∨ (List.lookup x ((if (k == NameKind.free && env.scope.kind == .function && env.kindOf n == some .cell) = true then (n, NameKind.cell) else (n, k)) :: _) = _)
    cases hx : x == n with
    | true =>
      simp only [List.lookup_cons, hx] at h
      cases h
      split
      · left; simp [List.lookup_cons, hx]
      · right; simp [List.lookup_cons, hx]
    | false =>
      simp only [List.lookup_cons, hx] at h
      split
      · simp only [List.lookup_cons, hx]; exact ih h
      · simp only [List.lookup_cons, hx]; exact ih h
theorem relabel_back {env : Env} {x : Str} : ∀ {names : List (Str × NameKind)}, (∀ y ∈ names, y.2 ≠ .cell) →
    ((names.map fun (n, k) => if (k == NameKind.free && env.scope.kind == .function && env.kindOf n == some .cell) then (n, NameKind.cell) else (n, k)).lookup x = some .cell ∨
    (names.map fun (n, k) => if (k == NameKind.free && env.scope.kind == .function && env.kindOf n == some .cell) then (n, NameKind.cell) else (n, k)).lookup x = some .free) → (x, NameKind.free) ∈ names
  | [], _, h => by simp at h
  | (n, k) :: r, hc, h => by
    have ih := @relabel_back env x r (fun y hy => hc y (List.mem_cons_of_mem _ hy))
    have hk : k ≠ .cell := hc (n, k) List.mem_cons_self
    have h' : (List.lookup x ((if (k == NameKind.free && env.scope.kind == .function && env.kindOf n == some .cell) = true then (n, NameKind.cell) else (n, k)) :: _) = _) ∨ (List.lookup x ((if (k == NameKind.free && env.scope.kind == .function && env.kindOf n == some .cell) = true then (n, NameKind.cell) else (n, k)) :: _) = _) := h
    cases hx : x == n with
    | true =>
      have e : x = n := by simpa using hx
      subst e
      by_cases hc2 : (k == NameKind.free && env.scope.kind == .function && env.kindOf x == some .cell) = true
      · have : k = .free := by
          have := (Bool.and_eq_true_iff.mp (Bool.and_eq_true_iff.mp hc2).1).1
          simpa using this
        subst this; exact List.mem_cons_self
      · rw [if_neg hc2] at h'
        simp only [List.lookup_cons, hx] at h'
        rcases h' with h' | h'
        · exact absurd (Option.some.inj h') hk
        · cases h'; exact List.mem_cons_self
    | false =>
      refine List.mem_cons_of_mem _ (ih ?_)
      split at h' <;> (simp only [List.lookup_cons, hx] at h'; exact h')
structure CompOk (scope psc : Scope) (N PN : List Str) (k : Nat) (cap : List Nat) : Prop where
  kind : scope.kind = .function
  len : N.length = k + cap.length
  cell : ∀ y ∈ scope.names, y.2 ≠ .cell
  loc : ∀ y ∈ scope.names, y.2 = .local → scope.names.lookup y.1 = some .local
  free : ∀ y ∈ scope.names, y.2 = .free → psc.names.lookup y.1 = some .cell ∨ psc.names.lookup y.1 = some .free
  cap : ∀ j ∈ List.range cap.length, ∃ x i, N[k + j]? = some x ∧ cap[j]? = some i ∧ PN[i]? = some x ∧ scope.names.lookup x = some .free
  free2 : ∀ y ∈ scope.names, y.2 = .free → scope.names.lookup y.1 = some .free
def capS (σ : St) (cap : List Nat) : St := cap.map fun j => (σ[j]?).join
def tComp (wi : TI) (tt : TTg) (tc : TT) (te : TE) (cap : List Nat) : TE := fun σ H Q => wi σ H fun J H1 =>
  ∃ W : Nat → Nat → List V → Hp → Prop, (∃ m, W 0 m [] H1) ∧ ∀ i m ys H2, W i m ys H2 →
    (J.stop i H2 ∧ ys.length ≤ sizeLine ∧ ∀ p, H2 p = none → Q (.ref p) (upd H2 p (.lst ys))) ∨
    (J.go i H2 ∧ ∃ N : List V → Hp → Prop, (∀ ys' H', N ys' H' → ys'.length ≤ sizeLine ∧ ∃ m', m' < m ∧ W (i + 1) m' ys' H') ∧
      ∀ x H3, J.yld i H2 x H3 → tt x H3 fun ws => tc (ws.map some ++ capS σ cap) H3 fun b H4 =>
        if b = true then te (ws.map some ++ capS σ cap) H4 fun y H5 => N (ys ++ [y]) H5 else N ys H4)
structure Blk (X : Cx) (pins : List (Addr × Obj)) (H : Hp) (s : Shared) (C : Addr) : Prop where
  ns : ∃ m, s.heap.Ns C m
  un : H C = none
  ne : C ≠ X.env.locals
  new : X.s₀.heap.objs.size ≤ C
  cells : ∀ x c, X.env.cells.lookup x = some c → c ≠ C
  pins : ∀ p ∈ X.pn ++ pins, p.1 ≠ C
theorem Blk.turn {X : Cx} {pins : List (Addr × Obj)} {H : Hp} {σ : St} {s : Shared} {C : Addr} {h' : Heap} (B : Blk X pins H s C) (I : Inv X pins σ H s) (hs : Heap.SameBut C s.heap h') : Inv X pins σ H { s with heap := h' } :=
  I.turned (t' := s.toks) (fun b o hb e => hs.extBut b o hb e) B.un B.ne (.inr B.new) B.cells B.pins
theorem comp_start {X : Cx} {pins : List (Addr × Obj)} {σ : St} {H : Hp} {s : Shared} {scope : Scope} {N : List Str} {k : Nat} {cap : List Nat} {cl : List (Str × Addr)} {h₁ : Heap} {fp : List Addr} {tk : Nat} (I : Inv X pins σ H s) (S : CompOk scope X.env.scope N X.N k cap)
    (hcl1 : ∀ x c, cl.lookup x = some c → X.env.cells.lookup x = some c) (hcl2 : ∀ x, (x, NameKind.free) ∈ scope.names → ∃ c, cl.lookup x = some c)
    (hf : ∀ b ∈ fp, FpOk X pins H b) (ho : ∀ b ∈ fp, ∃ o, s.heap.get? b = some o)
    {m : Str → Option Value} (hns : h₁.Ns (s.heap.objs.size + 1) m)
    (hsb : ∀ b o, (s.heap.push { cls := .type "list", data := .seq #[] }).get? b = some o → h₁.get? b = some o) :
    Inv (compCx X scope N cl (s.heap.objs.size + 1) { s with heap := s.heap.push { cls := .type "list", data := .seq #[] } } H (s.heap.objs.size :: fp) (X.pn ++ pins))
      [(s.heap.objs.size, { cls := .type "list", data := .seq #[] })] (List.replicate k none ++ capS σ cap) H { s with heap := h₁, toks := tk } := by
  have Ik : Inv X pins σ H { s with heap := s.heap.push { cls := .type "list", data := .seq #[] } } := I.kept (t' := s.toks) fun b o e => Heap.get?_push_of_some _ e
  have hold : ∀ b o, s.heap.get? b = some o → h₁.get? b = some o := fun b o e => hsb b o (Heap.get?_push_of_some _ e)
  have ltD : ∀ {b o}, s.heap.get? b = some o → b < s.heap.objs.size := fun e => Heap.lt_size e
  have sizeP : (s.heap.push { cls := .type "list", data := .seq #[] }).objs.size = s.heap.objs.size + 1 := Heap.size_push ..
  have nD : H s.heap.objs.size = none := I.fresh
  have nC : H (s.heap.objs.size + 1) = none := I.hok.fresh (Nat.le_succ _)
  have cellLt : ∀ x c, X.env.cells.lookup x = some c → c < s.heap.objs.size := fun x c e => by
    obtain ⟨v, q⟩ := I.cell x c e
    exact q.lt
  have stkNe : ∀ b, b ≠ X.env.locals → b ∉ X.fs → b ∉ frs X.stack := fun b h1 h2 hb => (List.mem_cons.mp (I.stkSub b hb)).elim h1 h2
  have fpLt : ∀ b ∈ fp, b < s.heap.objs.size := fun b hb => by obtain ⟨o, e⟩ := ho b hb; exact Heap.lt_size e
  have hfn : ∀ {x : Str}, scope.names.lookup x = some .free → (x, NameKind.free) ∈ scope.names := fun e => PySem.mem_of_lookup e
  refine ⟨⟨I.ok.mod, S.kind, I.ok.glob, I.ok.blt, ?_, fun x y c h1 h2 => I.ok.inj x y c (hcl1 x c h1) (hcl1 y c h2), fun x hx => hcl2 x (relabel_back S.cell hx), fun x c z => (by cases z), I.ok.hd, I.ok.frames, .inl rfl, ?_, ?_, ?_, ?_, ?_, Ik.stack, I.stkFree⟩,
    rfl, I.bare, Un.kept hsb, ?_, ?_, nC, fun x c e => I.freeC x c (hcl1 x c e), ?_, I.hok.kept hold, ?_⟩
  · exact Nat.le_of_eq sizeP
  · intro b hb
    rcases List.mem_cons.mp hb with rfl | hb
    · exact ⟨Nat.ne_of_lt (Nat.lt_succ_self _), fun x c e => Nat.ne_of_lt (cellLt x c (hcl1 x c e))⟩
    · exact ⟨Nat.ne_of_lt (Nat.lt_succ_of_lt (fpLt b hb)), fun x c e => (hf b hb).2.2.2.2.1 x c (hcl1 x c e)⟩
  · intro b o e
    obtain ⟨e1, e2⟩ := I.bs b o e
    exact ⟨Heap.get?_push_of_some _ e1, e2⟩
  · show X.base.objs.size ≤ (s.heap.push _).objs.size
    rw [sizeP]
    exact Nat.le_succ_of_le (Nat.le_trans I.ok.bsz I.sz)
  · intro b o e hb
    obtain ⟨e1, e2⟩ := I.bs b o e
    rcases List.mem_cons.mp hb with rfl | hb
    · exact absurd (ltD e1) (Nat.lt_irrefl _)
    · rcases (hf b hb).2.2.2.1 with z | z
      · exact I.ok.noex b o e z
      · exact absurd (Nat.lt_of_lt_of_le (Heap.lt_size (I.ok.bs b o e).1) z) (Nat.lt_irrefl _)
  · intro b hb
    rcases List.mem_cons.mp hb with rfl | hb
    · exact stkNe _ (Nat.ne_of_gt I.lt) (I.nofs (Nat.le_refl _))
    · exact stkNe b (hf b hb).2.1 (hf b hb).2.2.1
  · refine ⟨m, hns, fun i x v h1 h2 h3 => ?_⟩
    have hik : k ≤ i := by
      refine Nat.le_of_not_lt fun hlt => ?_
      rw [List.getElem?_append_left (by simpa using hlt), List.getElem?_replicate] at h2
      split at h2 <;> cases h2
    obtain ⟨j, rfl⟩ := Nat.exists_eq_add_of_le hik
    rw [List.getElem?_append_right (by simp), List.length_replicate, Nat.add_sub_cancel_left] at h2
    have hj : j < cap.length := by
      have := (List.getElem?_eq_some_iff.mp h2).1
      simpa [capS] using this
    obtain ⟨x', i, e1, e2, e3, e4⟩ := S.cap j (List.mem_range.mpr hj)
    rw [show N[k + j]? = some x from h1] at e1
    cases e1
    have h2' : σ[i]? = some (some v) := by
      unfold capS at h2
      rw [List.getElem?_map, e2] at h2
      have h2' : (σ[i]?).join = some v := Option.some.inj h2
      cases q : σ[i]? with
      | none => rw [q] at h2'; cases h2'
      | some z => rw [q] at h2'; exact congrArg some h2'
    have hfm := hfn e4
    have pk := S.free _ hfm rfl
    obtain ⟨m0, _, hl⟩ := I.loc
    obtain ⟨u, r, lk⟩ := hl i x v e3 h2' (pk.elim (fun z => .inr (.inl z)) fun z => .inr (.inr z))
    refine ⟨u, r, ?_⟩
    rcases lk with ⟨kl, _⟩ | ⟨_, c, e, ic⟩
    · rcases pk with z | z
      · have : X.env.scope.names.lookup x = some .local := kl
        rw [z] at this; cases this
      · have : X.env.scope.names.lookup x = some .local := kl
        rw [z] at this; cases this
    · obtain ⟨c', ec⟩ := hcl2 x hfm
      have := hcl1 x c' ec
      rw [e] at this; cases this
      refine .inr ⟨?_, c, ec, ?_⟩
      · exact relabel_free e4
      · obtain ⟨ob, h3, h4⟩ := ic
        exact ⟨ob, hold _ _ h3, h4⟩
  · intro x c e
    obtain ⟨v, ob, h3, h4⟩ := I.cell x c (hcl1 x c e)
    exact ⟨v, ob, hold _ _ h3, h4⟩
  · intro p hp
    rcases List.mem_append.mp hp with hp | hp
    · obtain ⟨e, n, ne, nf, d⟩ := I.pin p hp
      exact ⟨hold _ _ e, n, Nat.ne_of_lt (Nat.lt_succ_of_lt (ltD e)), stkNe _ ne nf, d⟩
    · have : p = (s.heap.objs.size, { cls := .type "list", data := .seq #[] }) := by simpa using hp
      subst this
      refine ⟨hsb _ _ (Heap.get?_push_size _ rfl), nD, Nat.ne_of_lt (Nat.lt_succ_self _), stkNe _ (Nat.ne_of_gt I.lt) (I.nofs (Nat.le_refl _)), fun v z => by cases z⟩
  · show _ = N.length
    rw [S.len]
    simp [capS]
end L2
set_option Elab.async false
set_option linter.all false
set_option maxRecDepth 100000
set_option maxHeartbeats 1000000
namespace L2
open PySem PySem.Spec PyProof.Rows
theorem comp_core {X : Cx} {elt tg iter : Expr} {ifs : List Expr} {scope : Scope} {pos : Pos} {N : List Str} {k : Nat} {cap : List Nat} {wi : TI} {tt : TTg} {tc : TT} {te : TE} {cl : List (Str × Addr)}
    (hc : X.calm = true) (hi : PI X tg iter wi) (hg : ∀ cl C s H ex pn, PTg (compCx X scope N cl C s H ex pn) k tg tt) (ht : ∀ cl C s H ex pn, PTs (compCx X scope N cl C s H ex pn) ifs tc)
    (he : ∀ cl C s H ex pn, PE (compCx X scope N cl C s H ex pn) elt te) (S : CompOk scope X.env.scope N X.N k cap)
    (hcl1 : ∀ x c, cl.lookup x = some c → X.env.cells.lookup x = some c) (hcl2 : ∀ x, (x, NameKind.free) ∈ scope.names → ∃ c, cl.lookup x = some c)
    {pins : List (Addr × Obj)} {s : Shared} {σ : St} {H : Hp} {Q : VK} (I : Inv X pins σ H s) (h : tComp wi tt tc te cap σ H Q) {RR : Value → Addr → Result → Shared → Prop}
    (hRR : ∀ D C s1 H', Inv X pins σ H' s1 → Blk X pins H' s1 C → Q (.ref D) H' → RR (.ref D) C (.ok .next) s1) :
    wpAny (model X.prog X.w) X.A (eval iter X.env) (fun x s₁ => wpAny (model X.prog X.w) X.A (pyIter x) (fun it s₂ => wpAny (model X.prog X.w) X.A (newList []) (fun acc s₃ =>
      wpAny (model X.prog X.w) X.A (newFunctionEnv scope X.env.globals cl [] X.env.qual none .none (some X.env)) (fun cenv s₄ =>
        codeAny (model X.prog X.w) X.A (.compStart (.ListComp elt [⟨tg, iter, ifs, 0⟩] scope pos) 0 it acc { cenv with scope := relabel scope X.env }) (RR acc cenv.locals) s₄) X.xe s₃) X.xe s₂) X.xe s₁) X.xe s := by
  refine thn (hi pins s σ H _ I h) fun v s1 h1 => thn h1 fun itv s2 h2 => ?_
  obtain ⟨it, fp, tn, J, H2, e, I2, T, st2, f2, W, ⟨m0, w0⟩, turn⟩ := h2
  subst e
  refine wpAny_newObj_type (wpAny_newFunctionEnv S.cell (by intro y hy; simp at hy) (fun h₁ hns₁ hsb₁ => ?_) S.kind)
  dsimp only at hns₁ hsb₁ ⊢
  have hP : s2.heap.push { cls := .type "list", dict := none, data := .seq ([] : List Value).toArray } = s2.heap.push { cls := .type "list", data := .seq #[] } := rfl
  rw [hP] at hns₁ hsb₁ ⊢
  have hC : (s2.heap.push { cls := .type "list", data := .seq #[] }).objs.size = s2.heap.objs.size + 1 := Heap.size_push ..
  rw [hC] at hns₁ hsb₁ ⊢
  have hsb : ∀ b o, (s2.heap.push { cls := .type "list", data := .seq #[] }).get? b = some o → h₁.get? b = some o := fun b o e =>
    hsb₁.extBut b o (by have := Heap.lt_size e; rw [hC] at this; exact Nat.ne_of_lt this) (Heap.get?_push_of_some _ e)
  have hob : ∀ b ∈ fp, ∃ o, s2.heap.get? b = some o := fun b hb => by obtain ⟨o, e, _⟩ := T.obj _ _ st2 b hb; exact ⟨o, e⟩
  have IY := comp_start (N := N) (k := k) (cap := cap) (tk := s2.toks + ([] : List (Str × Value)).length) I2 S hcl1 hcl2 f2 hob hns₁ hsb
  generalize hY : compCx X scope N cl (s2.heap.objs.size + 1) { s2 with heap := s2.heap.push { cls := .type "list", data := .seq #[] } } H2 (s2.heap.objs.size :: fp) (X.pn ++ pins) = Y at IY
  have yp : Y.prog = X.prog := by rw [← hY]
  have yw : Y.w = X.w := by rw [← hY]
  have yK : Y.K = X.K := by rw [← hY]
  have yA : Y.A = X.A := by rw [← hY]
  have yc : Y.calm = true := by rw [← hY]; exact hc
  have yl : Y.env.locals = s2.heap.objs.size + 1 := by rw [← hY]; rfl
  have yenv : Y.env = compEnvC scope cl (s2.heap.objs.size + 1) X.env := by rw [← hY]
  have yex : Y.ex = s2.heap.objs.size :: fp := by rw [← hY]
  have yfs : Y.fs = frs X.stack := by rw [← hY]
  have ypn : Y.pn = X.pn ++ pins := by rw [← hY]
  have ycl : Y.env.cells = cl := by rw [← hY]; rfl
  have yxe : Y.xe = fun _ _ => False := by rw [← hY]
  have gT : PTg Y k tg tt := by rw [← hY]; exact hg _ _ _ _ _ _
  have gC : PTs Y ifs tc := by rw [← hY]; exact ht _ _ _ _ _ _
  have gE : PE Y elt te := by rw [← hY]; exact he _ _ _ _ _ _
  have yH : Y.H₀ = H2 := by rw [← hY]
  have ys0 : Y.s₀ = { s2 with heap := s2.heap.push { cls := .type "list", data := .seq #[] } } := by rw [← hY]
  have fpLt : ∀ b ∈ fp, b < s2.heap.objs.size := fun b hb => by obtain ⟨o, e⟩ := hob b hb; exact Heap.lt_size e
  have pinLt : ∀ p ∈ X.pn ++ pins, p.1 < s2.heap.objs.size := fun p hp => Heap.lt_size (I2.pin p hp).1
  have cellLt : ∀ x c, X.env.cells.lookup x = some c → c < s2.heap.objs.size := fun x c e => by
    obtain ⟨v, q⟩ := I2.cell x c e
    exact q.lt
  have stkNe : ∀ b, b ≠ X.env.locals → b ∉ X.fs → b ∉ frs X.stack := fun b h1 h2 hb => (List.mem_cons.mp (I2.stkSub b hb)).elim h1 h2
  have fpY : ∀ {H' : Hp} {pl : List (Addr × Obj)}, (∀ b ∈ fp, H' b = none) → (∀ p ∈ pl, p.1 = s2.heap.objs.size) → ∀ b ∈ fp, FpOk Y pl H' b := fun {H' pl} hn hpl b hb => by
    refine ⟨hn b hb, ?_, ?_, .inl ?_, fun x c e => ?_, fun p hp => ?_⟩
    · rw [yl]; exact Nat.ne_of_lt (Nat.lt_succ_of_lt (fpLt b hb))
    · rw [yfs]; exact stkNe b (f2 b hb).2.1 (f2 b hb).2.2.1
    · rw [yex]; exact List.mem_cons_of_mem _ hb
    · rw [ycl] at e; exact (f2 b hb).2.2.2.2.1 x c (hcl1 x c e)
    · rcases List.mem_append.mp hp with hp | hp
      · rw [ypn] at hp; exact (f2 b hb).2.2.2.2.2 p hp
      · rw [hpl p hp]; exact Nat.ne_of_gt (fpLt b hb)
  have loop : ∀ s₃ : Shared, s₃ = { s2 with heap := h₁, toks := s2.toks + ([] : List (Str × Value)).length } →
      codeAny (model X.prog X.w) X.A (.compLoop (.ListComp elt [⟨tg, iter, ifs, 0⟩] scope pos) 0 (.ref it) (.ref s2.heap.objs.size) (compEnvC scope cl (s2.heap.objs.size + 1) X.env)) (RR (.ref s2.heap.objs.size) (s2.heap.objs.size + 1)) s₃ := by
    rintro s₃ rfl
    refine comp_loop (fun n s' => ∃ i ys its H' c, Inv Y [(s2.heap.objs.size, { cls := .type "list", data := .seq (List.toArray its) c })] (List.replicate k none ++ capS σ cap) H' s' ∧ tn i s'.heap ∧ (∀ b ∈ fp, H' b = none) ∧ Vals ys its ∧ W i n ys H') ?_ m0
      ⟨0, [], [], H2, _, IY, T.keep _ _ _ st2 fun b hb o e => hsb b o (Heap.get?_push_of_some _ e), fun b hb => (f2 b hb).1, .nil, w0⟩
    rintro n s3 ⟨i, ys, its, H3, c3, I3, st3, fr3, rv3, w3⟩
    have onlyD : ∀ p ∈ [(s2.heap.objs.size, ({ cls := .type "list", data := .seq its.toArray c3 } : Obj))], p.1 = s2.heap.objs.size := fun p hp => by
      have : p = (s2.heap.objs.size, { cls := .type "list", data := .seq its.toArray c3 }) := by simpa using hp
      rw [this]
    have pinD : ∀ {pl : List (Addr × Obj)} {σ' : St} {H' : Hp} {s' : Shared}, Inv Y ([(s2.heap.objs.size, ({ cls := .type "list", data := .seq its.toArray c3 } : Obj))] ++ pl) σ' H' s' → s'.heap.get? s2.heap.objs.size = some { cls := .type "list", data := .seq its.toArray c3 } ∧ H' s2.heap.objs.size = none := fun I' => by
      obtain ⟨e, n, _⟩ := I'.pin (s2.heap.objs.size, { cls := .type "list", data := .seq its.toArray c3 }) (List.mem_append_right _ (List.mem_append_left _ (by simp)))
      exact ⟨e, n⟩
    rcases turn i n ys H3 w3 with ⟨stop, hz, qn⟩ | ⟨go, Nx, hNx, step⟩
    · have hd := T.done Y yp yw yK yc i _ s3 _ H3 (fun _ _ => False) I3 (fpY fr3 onlyD) st3 stop
      rw [yA] at hd
      refine thn hd fun r s4 hm0 => ?_
      obtain ⟨hr, I4⟩ := hm0
      subst hr
      obtain ⟨eD, nD⟩ := pinD (pl := []) (by simpa using I4)
      have nC : H3 (s2.heap.objs.size + 1) = none := by have := I4.free; rw [yl] at this; exact this
      obtain ⟨mC, nsC, _⟩ := I4.loc
      rw [yl] at nsC
      have U := I4.base
      rw [yfs, yex, yH, ys0] at U
      have old : ∀ {b o}, s2.heap.get? b = some o → b < s2.heap.objs.size := fun e => Heap.lt_size e
      have Un2 : Un (frs X.stack) (s2.heap.objs.size :: fp) H2 (upd H3 s2.heap.objs.size (.lst ys)) s2.heap s4.heap :=
        ⟨fun b o e n hb hx => U.keep b o (Heap.get?_push_of_some _ e) n hb hx, fun b o e n hb hx => U.slot b o (Heap.get?_push_of_some _ e) n hb hx,
          fun b o e n hx => by rw [upd_ne (Nat.ne_of_lt (old e))]; exact U.free b o (Heap.get?_push_of_some _ e) n hx, fun b o e hx => U.there b o (Heap.get?_push_of_some _ e) hx,
          fun b xs e => by have q := U.tups b xs e; rw [upd_ne (ne_of_none q nD)]; exact q, fun b o u e => by have q := U.frzs b o u e; rw [upd_ne (ne_of_none q nD)]; exact q,
          fun b ps e => by obtain ⟨mo, q⟩ := U.tbls b ps e; exact ⟨mo, by rw [upd_ne (ne_of_none q nD)]; exact q⟩⟩
      have hok4 := I4.hok
      rw [yp, yw] at hok4
      have IX : Inv X pins σ (upd H3 s2.heap.objs.size (.lst ys)) s4 := by
        refine I2.call' (ch := s2.heap.objs.size :: fp) ?_ Un2 (hok4.adopt nD ⟨hz, its, c3, rv3, eD⟩) I4.bare fun b hb => ?_
        · have := I4.os; rw [ys0] at this; exact this
        · rcases List.mem_cons.mp hb with rfl | hb
          · exact ⟨.inr I2.sz, Nat.ne_of_gt I2.lt, fun x c e => Nat.ne_of_lt (cellLt x c e), fun p hp => Nat.ne_of_lt (pinLt p hp)⟩
          · exact ⟨(f2 b hb).2.2.2.1, (f2 b hb).2.1, (f2 b hb).2.2.2.2.1, (f2 b hb).2.2.2.2.2⟩
      refine hRR _ _ s4 _ IX ⟨⟨mC, nsC⟩, ?_, ?_, Nat.le_succ_of_le I2.sz, fun x c e => Nat.ne_of_lt (Nat.lt_succ_of_lt (cellLt x c e)), fun p hp => Nat.ne_of_lt (Nat.lt_succ_of_lt (pinLt p hp))⟩ (qn _ nD)
      · rw [upd_ne (Nat.succ_ne_self _)]; exact nC
      · exact Nat.ne_of_gt (Nat.lt_succ_of_lt I2.lt)
    · have hd := T.item Y yp yw yK yc i _ s3 _ H3 (fun _ _ => False) I3 (fpY fr3 onlyD) st3 go
      rw [yA] at hd
      refine thn hd fun r s4 hm0 => ?_
      obtain ⟨u, hr, h4⟩ := hm0
      subst hr
      refine thn h4 fun _ s5 hm0 => ?_
      obtain ⟨x, H5, I5, r5, y5, st5, fr5⟩ := hm0
      have I5' := I5.pinned (fpY fr5 onlyD) (T.obj _ _ st5)
      have a5 := gT _ s5 _ H5 x u _ I5' (by simp) r5 (step x H5 y5)
      rw [yp, yw, yA, yxe, yenv] at a5
      refine thn a5 fun _ s6 hm0 => ?_
      obtain ⟨ws, hlw, q6, I6⟩ := hm0
      have dr : (List.replicate k (none : Option V) ++ capS σ cap).drop k = capS σ cap := by
        rw [List.drop_append_of_le_length (by simp)]; simp
      rw [dr] at I6
      have a6 := gC _ s6 _ H5 _ I6 q6
      rw [yp, yw, yA, yxe, yenv] at a6
      refine thn a6 fun ok s7 hm0 => ?_
      obtain ⟨H7, I7, q7⟩ := hm0
      have wk : ∀ (j : Nat) v, (List.replicate k (none : Option V) ++ capS σ cap)[j]? = some (some v) → (ws.map some ++ capS σ cap)[j]? = some (some v) := fun j v e => by
        have hik : k ≤ j := by
          refine Nat.le_of_not_lt fun hlt => ?_
          rw [List.getElem?_append_left (by simpa using hlt), List.getElem?_replicate] at e
          split at e <;> cases e
        rw [List.getElem?_append_right (by simpa using hik), List.length_replicate] at e
        rw [List.getElem?_append_right (by simpa [hlw] using hik), List.length_map, hlw]
        exact e
      have wl : (List.replicate k (none : Option V) ++ capS σ cap).length = (ws.map some ++ capS σ cap).length := by simp [hlw]
      have stn : ∀ {H' : Hp} {s' : Shared}, Inv Y ([(s2.heap.objs.size, ({ cls := .type "list", data := .seq its.toArray c3 } : Obj))] ++ pinsAt fp s5.heap) (ws.map some ++ capS σ cap) H' s' → tn (i + 1) s'.heap ∧ ∀ b ∈ fp, H' b = none := fun {H' s'} I' => by
        refine ⟨T.keep _ _ _ st5 fun b hb o e => (I'.pin (b, o) (List.mem_append_right _ (List.mem_append_right _ (mem_pinsAt hb e)))).1, fun b hb => ?_⟩
        obtain ⟨o, e, d⟩ := T.obj _ _ st5 b hb
        exact (I'.pin (b, o) (List.mem_append_right _ (List.mem_append_right _ (mem_pinsAt hb e)))).2.1
      cases ok with
      | false =>
        obtain ⟨_, m', hm, w'⟩ := hNx _ _ q7
        obtain ⟨t7, f7⟩ := stn I7
        exact ⟨m', hm, i + 1, ys, its, H7, c3, (I7.weak wl wk).unpinned, t7, f7, rv3, w'⟩
      | true =>
        have a7 := gE _ s7 _ H7 _ I7 q7
        rw [yp, yw, yA, yxe, yenv] at a7
        rw [if_pos rfl]
        refine thn a7 fun yv s8 hm0 => ?_
        obtain ⟨y, H8, I8, r8, q8⟩ := hm0
        obtain ⟨hz8, m', hm, w'⟩ := hNx _ _ q8
        rw [List.length_append, List.length_singleton] at hz8
        obtain ⟨eD, nD⟩ := pinD I8
        obtain ⟨t8, f8⟩ := stn I8
        refine wpAny_list_append_plain (hsz := by rw [List.size_toArray, ← rv3.length]; omega) ⟨c3, eD⟩ fun h9 pl9 sb9 => ?_
        obtain ⟨c9, e9⟩ := pl9
        have I8' : Inv Y [] (List.replicate k none ++ capS σ cap) H8 s8 := (I8.weak wl wk).pins_of fun p hp => by cases hp
        have I9 : Inv Y [] (List.replicate k none ++ capS σ cap) H8 { s8 with heap := h9 } :=
          I8'.turned (t' := s8.toks) (it := s2.heap.objs.size) (fun b o hb e => sb9.extBut b o hb e) nD (by rw [yl]; exact Nat.ne_of_lt (Nat.lt_succ_self _)) (.inl (by rw [yex]; exact List.mem_cons_self)) (fun x c e => by rw [ycl] at e; exact Nat.ne_of_lt (cellLt x c (hcl1 x c e)))
            fun p hp => by
              rw [List.append_nil, ypn] at hp
              exact Nat.ne_of_lt (pinLt p hp)
        have e9' : h9.get? s2.heap.objs.size = some { cls := .type "list", data := .seq (its ++ [yv]).toArray c9 } := by rw [e9]; simp
        refine ⟨m', hm, i + 1, ys ++ [y], its ++ [yv], H8, c9, I9.pins_of fun p hp => ?_, T.keep _ _ _ t8 fun b hb o e => sb9.extBut b o (Nat.ne_of_lt (fpLt b hb)) e, f8, rv3.append (.cons r8 .nil), w'⟩
        have : p = (s2.heap.objs.size, { cls := .type "list", data := .seq (its ++ [yv]).toArray c9 }) := by simpa using hp
        subst this
        refine ⟨e9', nD, ?_, ?_, fun v z => by cases z⟩
        · rw [yl]; exact Nat.ne_of_lt (Nat.lt_succ_self _)
        · rw [yfs]; exact stkNe _ (Nat.ne_of_gt I2.lt) (I2.nofs (Nat.le_refl _))
  exact codeAny_compStart_list (loop _ rfl) (T.self _ 0 _ _ _ (T.keep _ _ _ st2 fun b hb o e => hsb b o (Heap.get?_push_of_some _ e)) (loop _ rfl))
section
variable {X : Cx} {elt tg iter : Expr} {ifs : List Expr} {scope : Scope} {pos : Pos} {N : List Str} {k : Nat} {cap : List Nat} {wi : TI} {tt : TTg} {tc : TT} {te : TE}
theorem pe_comp (hc : X.calm = true) (S : CompOk scope X.env.scope N X.N k cap) (hi : PI X tg iter wi) (hg : ∀ cl C s H ex pn, PTg (compCx X scope N cl C s H ex pn) k tg tt) (ht : ∀ cl C s H ex pn, PTs (compCx X scope N cl C s H ex pn) ifs tc)
    (he : ∀ cl C s H ex pn, PE (compCx X scope N cl C s H ex pn) elt te) (hs : ∀ x, foldedSetIterable iter X.env x = pure x := by intro _; rfl) :
    PE X (.ListComp elt [⟨tg, iter, ifs, 0⟩] scope pos) (tComp wi tt tc te cap) := by
  intro pins s σ H Q I h
  obtain ⟨cl, hclos, hcl1, hcl2⟩ := clos_of (scope := scope) (env := X.env) fun y hy hf => I.ok.has y.1 (S.free y hy hf)
  rw [eval_ListComp]
  refine wpAny_comprehension_free (use := none) rfl hs hclos S.kind S.loc ?_
  refine comp_core hc hi hg ht he S hcl1 hcl2 I h fun D C s1 H' I1 B q => ?_
  obtain ⟨m, hm⟩ := B.ns
  exact ⟨m, hm, fun h' sb => ⟨.ref D, H', B.turn I1 sb, rfl, q⟩⟩
theorem ps_setC {i : Nat} {y : Str} {py spos : Pos} (hc : X.calm = true) (S : CompOk scope X.env.scope N X.N k cap) (hN : X.N.Nodup) (hiy : X.N[i]? = some y) (hy : X.env.scope.names.lookup y = some .local) (hi : PI X tg iter wi)
    (hg : ∀ cl C s H ex pn, PTg (compCx X scope N cl C s H ex pn) k tg tt) (ht : ∀ cl C s H ex pn, PTs (compCx X scope N cl C s H ex pn) ifs tc)
    (he : ∀ cl C s H ex pn, PE (compCx X scope N cl C s H ex pn) elt te)
    (hsw : swapsWith (.ListComp elt [⟨tg, iter, ifs, 0⟩] scope pos) (some (.Name y py)) spos.line X.env = pure true := by rfl) (hs : ∀ x, foldedSetIterable iter X.env x = pure x := by intro _; rfl) :
    PS X (.Assign [.Name y py] (.ListComp elt [⟨tg, iter, ifs, 0⟩] scope pos) spos) (tAsg (tComp wi tt tc te cap) (gName i)) := by
  intro pins s σ H D I h
  obtain ⟨cl, hclos, hcl1, hcl2⟩ := clos_of (scope := scope) (env := X.env) fun y hy hf => I.ok.has y.1 (S.free y hy hf)
  rw [exec_Assign_Name_used _ _ _ _ hsw]
  refine wpAny_bind (wpAny_standAt (wpAny_bind ?_))
  show wpAny _ X.A (do let _ ← comprehension (.ListComp elt [⟨tg, iter, ifs, 0⟩] scope pos) scope X.env _ (newList []) false (eval iter X.env) (some (assign (.Name y py) X.env))) _ _ s
  refine wpAny_bind (wpAny_mono (wpAny_comprehension_free (use := some (assign (.Name y py) X.env)) (Q := fun _ s' => SP X pins D .next s') rfl hs hclos S.kind S.loc ?_) (fun _ s' hq => wpAny_pure (wpAny_pure hq)) fun _ _ e => e)
  refine comp_core hc hi hg ht he S hcl1 hcl2 I h fun Da C s1 H' I1 B q => ?_
  show wpAny _ X.A (assign (.Name y py) X.env (.ref Da)) _ _ _
  refine wpAny_assign_Name (store_ok2 (v := .ref Da) I1 hN hiy (.inl hy) rfl (fun s' I' z => ?_) (.inr hy))
  obtain ⟨a, hsb, ha⟩ := z
  have hCa : C ≠ a := by
    rcases ha with rfl | ha
    · exact B.ne
    · exact fun e => B.cells _ _ ha e.symm
  obtain ⟨m, hm⟩ := B.ns
  refine ⟨m, hm.sameBut hsb hCa, fun h' sb => ?_⟩
  exact ⟨_, H', I'.turned (t' := s'.toks) (fun b o hb e => sb.extBut b o hb e) B.un B.ne (.inr B.new) B.cells B.pins, q⟩
end
end L2
set_option Elab.async false
set_option linter.all false
set_option maxRecDepth 100000
set_option maxHeartbeats 1000000
namespace L2
open PySem PySem.Spec PyProof.Rows
abbrev Rel (α : Type) := Hp → α → V → Prop
def rInt : Rel Int := fun _ i v => v = .int i
def rLst {α : Type} (R : Rel α) : Rel (List α) := fun H xs v => ∃ a vs, v = .ref a ∧ H a = some (.lst vs) ∧ Paired (R H) xs vs
def rT2 {α β : Type} (R : Rel α) (S : Rel β) : Rel (α × β) := fun H p v => ∃ a x y, v = .ref a ∧ H a = some (.tup [x, y]) ∧ R H p.1 x ∧ S H p.2 y
structure MonoR {α : Type} (R : Rel α) : Prop where
  go : ∀ (H H' : Hp) (x : α) (v : V), Same H H' → R H x v → R H' x v
theorem MonoR.up {α : Type} {R : Rel α} (m : MonoR R) {H H' : Hp} {x : α} {v : V} (s : Same H H') (h : R H x v) : R H' x v := m.go H H' x v s h
theorem mono_int : MonoR rInt := ⟨fun _ _ _ _ _ h => h⟩
theorem paired_mono {α : Type} {R : Rel α} (m : MonoR R) {H H' : Hp} (s : Same H H') {xs : List α} {vs : List V} (p : Paired (R H) xs vs) : Paired (R H') xs vs := Paired.mapP p fun _ _ q => m.up s q
theorem mono_lst {α : Type} {R : Rel α} (m : MonoR R) : MonoR (rLst R) := ⟨fun H H' x v s h => by
  obtain ⟨a, vs, e, h1, p⟩ := h
  exact ⟨a, vs, e, s _ _ h1, paired_mono m s p⟩⟩
theorem mono_t2 {α β : Type} {R : Rel α} {S : Rel β} (m : MonoR R) (n : MonoR S) : MonoR (rT2 R S) := ⟨fun H H' x v s h => by
  obtain ⟨a, x, y, e, h1, p, q⟩ := h
  exact ⟨a, x, y, e, s _ _ h1, m.up s p, n.up s q⟩⟩
theorem Paired.at {α β : Type} {F : α → β → Prop} : ∀ {xs : List α} {ys : List β} {i : Nat} {x : α}, Paired F xs ys → xs[i]? = some x → ∃ y, ys[i]? = some y ∧ F x y
  | _, _, _, _, .nil, e => by simp at e
  | _, _, 0, _, .cons r _, e => by simp at e; subst e; exact ⟨_, rfl, r⟩
  | _, _, i + 1, x, .cons _ t, e => by
    obtain ⟨u, h1, h2⟩ := Paired.at (i := i) (x := x) t (by simpa using e)
    exact ⟨u, by simpa using h1, h2⟩
theorem Paired.app {α β : Type} {F : α → β → Prop} : ∀ {xs xs' : List α} {ys ys' : List β}, Paired F xs ys → Paired F xs' ys' → Paired F (xs ++ xs') (ys ++ ys')
  | _, _, _, _, .nil, s => s
  | _, _, _, _, .cons r t, s => .cons r (Paired.app t s)
section
variable {X : Cx}
def kindV (H : Hp) : V → String → Prop
  | .non, T => T = "NoneType"
  | .bl _, T => T = "bool"
  | .int _, T => T = "int"
  | .str _, T => T = "str"
  | .ref a, T => (T = "list" ∧ ((∃ xs, H a = some (.lst xs)) ∨ ∃ o xs, H a = some (.frz o (.lst xs)))) ∨ (T = "tuple" ∧ ∃ xs, H a = some (.tup xs)) ∨ (T = "dict" ∧ ∃ kvs, H a = some (.dK kvs))
  | _, _ => False
theorem kindV.ty {K : PySem.W.Frag} {H : Hp} {x : V} {T : String} (h : kindV H x T) : TyOf K H x (.type T) := by
  cases x with
  | non => cases (show T = "NoneType" from h); exact .non
  | bl b => cases (show T = "bool" from h); exact .bl b
  | int i => cases (show T = "int" from h); exact .int i
  | str z => cases (show T = "str" from h); exact .str z
  | ref a =>
    rcases h with ⟨rfl, ⟨xs, e⟩ | ⟨o, xs, e⟩⟩ | ⟨rfl, xs, e⟩ | ⟨rfl, kvs, e⟩
    · exact .lst e
    · exact .frz e
    · exact .tup e
    · exact .dK e
  | _ => exact False.elim h
theorem call_isi {T : String} : CallR X (.builtin "isinstance") (fun xs H Q => ∃ x S b, xs = [x, .ty T] ∧ kindV H x S ∧ PySem.W.kitOne X.K (.type S) (.type T) = some b ∧ Q (.bl b) H) := by
  intro pins s σ H xs us Q I r h
  obtain ⟨x, S, b, rfl, hk, e, q⟩ := h
  obtain ⟨u, c, rfl, ru, rc⟩ := r.two
  cases (show c = Value.type T from rc)
  exact isinst_ok I ru hk.ty e fun tk => ⟨.bl b, H, I.tok _, rfl, q⟩
theorem isi_same {K : PySem.W.Frag} (T : String) : PySem.W.kitOne K (.type T) (.type T) = some true := by
  unfold PySem.W.kitOne
  rw [if_pos (by simp)]
theorem isi_int_bool {K : PySem.W.Frag} : PySem.W.kitOne K (.type "int") (.type "bool") = some false := rfl
end
end L2
set_option Elab.async false
set_option linter.all false
set_option maxRecDepth 100000
set_option maxHeartbeats 1000000
namespace L2
open PySem PySem.Spec PyProof.Rows
def compOkB (scope psc : Scope) (N PN : List Str) (k : Nat) (cap : List Nat) : Bool :=
  (scope.kind == .function) && (N.length == k + cap.length) &&
  (scope.names.all fun y => (y.2 != .cell) && (y.2 != .local || scope.names.lookup y.1 == some .local) &&
    (y.2 != .free || (scope.names.lookup y.1 == some .free && (psc.names.lookup y.1 == some .cell || psc.names.lookup y.1 == some .free)))) &&
  ((List.range cap.length).all fun j => match N[k + j]?, cap[j]? with
    | some x, some i => PN[i]? == some x && scope.names.lookup x == some .free
    | _, _ => false)
theorem compOk_of {scope psc : Scope} {N PN : List Str} {k : Nat} {cap : List Nat} (h : compOkB scope psc N PN k cap = true) : CompOk scope psc N PN k cap := by
  unfold compOkB at h
  simp only [Bool.and_eq_true] at h
  obtain ⟨⟨⟨h1, h2⟩, h3⟩, h4⟩ := h
  rw [List.all_eq_true] at h3 h4
  have q : ∀ y ∈ scope.names, y.2 ≠ .cell ∧ (y.2 = .local → scope.names.lookup y.1 = some .local) ∧ (y.2 = .free → scope.names.lookup y.1 = some .free ∧ (psc.names.lookup y.1 = some .cell ∨ psc.names.lookup y.1 = some .free)) := fun y hy => by
    have := h3 y hy
    simp only [Bool.and_eq_true, Bool.or_eq_true, bne_iff_ne, beq_iff_eq] at this
    obtain ⟨⟨a, b⟩, c⟩ := this
    exact ⟨a, fun e => b.elim (fun z => absurd e z) id, fun e => c.elim (fun z => absurd e z) id⟩
  refine ⟨by simpa using h1, by simpa using h2, fun y hy => (q y hy).1, fun y hy => (q y hy).2.1, fun y hy e => ((q y hy).2.2 e).2, fun j hj => ?_, fun y hy e => ((q y hy).2.2 e).1⟩
  have := h4 j hj
  split at this
  · rename_i x i e1 e2
    simp only [Bool.and_eq_true, beq_iff_eq] at this
    exact ⟨x, i, e1, e2, this.1, this.2⟩
  · cases this
section
variable {X : Cx} {elt tg iter : Expr} {ifs : List Expr} {scope : Scope} {pos : Pos} {wi : TI} {tt : TTg} {tc : TT} {te : TE}
theorem pe_lc (psc : Scope) (PN N : List Str) (k : Nat) (cap : List Nat) (hi : PI X tg iter wi) (hg : ∀ cl C s H ex pn, PTg (compCx X scope N cl C s H ex pn) k tg tt) (ht : ∀ cl C s H ex pn, PTs (compCx X scope N cl C s H ex pn) ifs tc)
    (he : ∀ cl C s H ex pn, PE (compCx X scope N cl C s H ex pn) elt te) (hc : X.calm = true := by rfl) (h1 : X.env.scope = psc := by rfl) (h2 : X.N = PN := by rfl) (S : compOkB scope psc N PN k cap = true := by decide +kernel)
    (hs : ∀ x, foldedSetIterable iter X.env x = pure x := by intro _; rfl) :
    PE X (.ListComp elt [⟨tg, iter, ifs, 0⟩] scope pos) (tComp wi tt tc te cap) := pe_comp hc (by rw [h1, h2]; exact compOk_of S) hi hg ht he hs
theorem ps_lc {i : Nat} {y : Str} {py spos : Pos} (psc : Scope) (PN N : List Str) (k : Nat) (cap : List Nat) (hN : X.N.Nodup) (hiy : X.N[i]? = some y) (hy : X.env.scope.names.lookup y = some .local) (hi : PI X tg iter wi)
    (hg : ∀ cl C s H ex pn, PTg (compCx X scope N cl C s H ex pn) k tg tt) (ht : ∀ cl C s H ex pn, PTs (compCx X scope N cl C s H ex pn) ifs tc)
    (he : ∀ cl C s H ex pn, PE (compCx X scope N cl C s H ex pn) elt te) (hc : X.calm = true := by rfl) (h1 : X.env.scope = psc := by rfl) (h2 : X.N = PN := by rfl) (S : compOkB scope psc N PN k cap = true := by decide +kernel)
    (hsw : swapsWith (.ListComp elt [⟨tg, iter, ifs, 0⟩] scope pos) (some (.Name y py)) spos.line X.env = pure true := by rfl) (hs : ∀ x, foldedSetIterable iter X.env x = pure x := by intro _; rfl) :
    PS X (.Assign [.Name y py] (.ListComp elt [⟨tg, iter, ifs, 0⟩] scope pos) spos) (tAsg (tComp wi tt tc te cap) (gName i)) := ps_setC hc (by rw [h1, h2]; exact compOk_of S) hN hiy hy hi hg ht he hsw hs
end
structure Dn (P : Program) (w : World) (K : PySem.W.Frag) (mg : Str → Option Value) (base : Heap) (x : Str) (n : Nat) (ps : List Str) (sp : Sp) : Prop where
  ex : ∃ f fd, FnOk P w K mg base CX0 n f fd ps sp ∧ mg x = some (.ref f) ∧ PySem.W.keepIn K (.ref f) = true ∧ Binds K fd ps []
structure DefAt (K : PySem.W.Frag) (mg : Str → Option Value) (x : Str) (st : Stmt) (ps : List Str) : Prop where
  ex : ∃ f fd, Fun K x x st f fd ∧ mg x = some (.ref f) ∧ Binds K fd ps []
section
variable {P : Program} {w : World} {K : PySem.W.Frag} {mg : Str → Option Value} {base : Heap}
theorem DefAt.ok {x : Str} {st : Stmt} {N ps : List Str} {k : Nat} {sp : Sp} (F : DefAt K mg x st ps) (S : FnScope N ps (defScope st)) (len : ∀ vs H Q E, sp vs H Q E → vs.length = ps.length)
    (hbody : ∀ (f : Addr) (cdv : Value) (A : Around) (outer : List Env) (s : Shared) (H : Hp) (vs : List V) (Q : VK) (E : XK), Room k (A.deeper (envOfC x (defScope st) s.heap.objs.size f cdv)) → sp vs H Q E →
      ∃ t, PSs (cxOf CX0 P w K mg base N x (defScope st) f cdv A outer s H E).nox (defBody st) t ∧ t { nx := fun _ H' => Q .non H', rt := Q } (start N vs) H) : Dn P w K mg base x (k + 1) ps sp := by
  obtain ⟨f, fd, F, hm, hb⟩ := F.ex
  exact ⟨f, fd, F.ok S len fun cdv A outer s H vs Q E => hbody f cdv A outer s H vs Q E, hm, F.kp, hb⟩
end
theorem pe_dn {X : Cx} {x : Str} {n k : Nat} {ps : List Str} {sp : Sp} {e : Expr} {es : List Expr} {t : TA} {p pos : Pos} (D : Dn X.prog X.w X.K X.mg X.base x n ps sp) (hr : Room k X.A) (ha : PA X (e :: es) t) (hk : n ≤ k := by decide) (hg : Gl X x := by rfl)
    (hdb : (x == ("__debug__" : Str)) = false := by decide) (he : starEach (e :: es) X.env = (false, eval e X.env) :: starEach es X.env := by rfl) (hpl : (backTo pos (starEach es X.env)).any (·.1) = false := by rfl) :
    PE X (.Call (.Name x p) (e :: es) [] pos) (tCall sp [] E0 t) := by
  obtain ⟨f, fd, F, hm, kp, hb⟩ := D.ex
  exact pe_call F (hr.mono hk) hg hm kp hb .nil pass0 ha hdb he hpl
theorem hu_n {A : Around} {k : Nat} (hr : Room k A) (n : Nat) (h : n ≤ 64 := by decide) : A.units + n < cLine := Nat.lt_of_le_of_lt (Nat.add_le_add_left h _) hr.units
def tSeqM (t u : TS) : TS := fun D σ H => ∃ M : St → Hp → Prop, t { D with nx := M } σ H ∧ ∀ σ' H', M σ' H' → u D σ' H'
theorem pss_cut {X : Cx} {st : Stmt} {rest : List Stmt} {t u : TS} (h1 : PS X st t) (h2 : PSs X rest u) : PSs X (st :: rest) (tSeqM t u) := by
  intro pins s σ H D I h
  obtain ⟨M, h, k⟩ := h
  refine wpAny_execs_cons (thn (h1 pins s σ H { D with nx := M } I h) fun f s1 q => ?_)
  cases f with
  | next =>
    obtain ⟨σ', H', I', q⟩ := q
    exact h2 pins s1 σ' H' D I' (k σ' H' q)
  | ret v => exact q
  | brk => exact q
  | cont => exact q
def newp (H H' : Hp) : Hp := fun b => match H b with
  | none => H' b
  | some _ => none
theorem newp_same (H H' : Hp) : Same (newp H H') H' := fun b o e => by
  unfold newp at e
  cases q : H b with
  | none => rw [q] at e; exact e
  | some u => rw [q] at e; cases e
theorem newp_none {H H' : Hp} {b : Addr} {o : HO} (h : H b = some o) : newp H H' b = none := by unfold newp; rw [h]
theorem newp_at {H H' : Hp} {b : Addr} (h : H b = none) : newp H H' b = H' b := by unfold newp; rw [h]
theorem newp_mono {H H1 H' H2 : Hp} (a : Same H H1) (b : Same H' H2) : Same (newp H1 H') (newp H H2) := fun c o e => by
  cases q : H1 c with
  | some u => rw [newp_none q] at e; cases e
  | none =>
    rw [newp_at q] at e
    rw [newp_at (a.free q)]
    exact b c o e
theorem same_upd {H : Hp} {p : Addr} (h : H p = none) (o : HO) : Same H (upd H p o) := fun b u q => by rw [upd_ne (ne_of_none q h)]; exact q
theorem Same.put {Hs H : Hp} {p : Addr} (s : Same Hs H) (h : Hs p = none) (o : HO) : Same Hs (upd H p o) := fun b u q => by
  rw [upd_ne (ne_of_none q h)]; exact s b u q
theorem small {n m : Nat} (h : n ≤ m) (hm : m ≤ 1000000 := by decide) : n ≤ sizeLine := Nat.le_trans h (Nat.le_trans hm (by decide))
theorem atI_ints {ns : List Int} {k : Int} (h0 : 0 ≤ k) (h1 : k < ns.length) : atI (ns.map V.int) k = some (.int (ns.getD k.toNat 0)) := by
  have hk : k.toNat < ns.length := by omega
  have ek : k = ((k.toNat : Nat) : Int) := by omega
  rw [ek]
  refine (atI_nat (v := V.int (ns.getD k.toNat 0)) ?_)
  simp [hk]
theorem comp_yes {x : V} {H : Hp} {f : List V → St} {A B : List V → Hp → Prop} (h : A [x] H) : ttName x H fun ws => tYes (f ws) H fun b H4 => if b = true then A ws H4 else B ws H4 := by
  show if true = true then A [x] H else B [x] H
  rw [if_pos rfl]; exact h
end L2
set_option Elab.async false
set_option linter.all false
set_option maxRecDepth 100000
set_option maxHeartbeats 1000000
namespace L2
open PySem PySem.Spec PyProof.Rows
section
variable {prog : Program} {w : World} {A : Around} {E : Value → Shared → Prop} {s : Shared} {T : String} {r d : Addr} {n : Nat} {P : Nat → Value → Prop} {OK : Heap → Prop} {Q : Value → Shared → Prop}
end
section
variable {X : Cx}
theorem call_maxL (hc : X.calm = true) : CallR X (.builtin "max") (fun xs H Q => ∃ (a : Addr) (ks : List Int), xs = [.ref a] ∧ SqL X.K H a (ks.map V.int) ∧ ks ≠ [] ∧ ∀ M, M ∈ ks → (∀ k ∈ ks, k ≤ M) → Q (.int M) H) := by
  intro pins s σ H xs us Q I r h
  obtain ⟨a, ks, rfl, ha, hne, q⟩ := h
  obtain ⟨u, rfl, ru⟩ := vals1 r
  cases ru
  obtain ⟨its, rv, pl, hz⟩ := I.list ha
  have hi : IntsAre its ks := intsAre_of rv
  obtain ⟨xs, e⟩ := hi.allInts.items
  have hns : ks = xs.toList.map (·.1) := by rw [← hi.numsOf, ← nums_intItems, ← e]
  have hsz : 0 < xs.size := by
    have h3 : 0 < ks.length := List.length_pos_iff.mpr hne
    rw [hns, List.length_map, Array.length_toList] at h3; exact h3
  have hl := pl.isList
  rw [e] at hl
  refine max_intList (I.ok.hd hc) hl hsz fun v h' tk hv hk => ?_
  obtain ⟨t, rfl⟩ := intItems_at hv
  obtain ⟨h1, h2⟩ := argBest_gt (numAt xs) (xs.size - 1)
  refine ⟨.int _, H, I.kept (t' := tk) hk, ⟨t, rfl⟩, q _ ?_ fun k hk => ?_⟩
  · rw [hns, numAt_eq]; exact PySem.getD_mem (by rw [List.length_map, Array.length_toList]; (clear hc hne q hz hk h2; omega))
  · rw [hns] at hk
    obtain ⟨j, hj, rfl⟩ := PySem.mem_getD hk
    rw [List.length_map, Array.length_toList] at hj
    rw [← numAt_eq]; exact h2 j (by (clear hc hne q hz hsz h1 h2; omega))
end
end L2
set_option Elab.async false
set_option linter.all false
set_option maxRecDepth 100000
set_option maxHeartbeats 1000000
namespace L2
open PySem PySem.Spec PyProof.Rows
end L2
set_option Elab.async false
set_option linter.all false
set_option maxRecDepth 100000
set_option maxHeartbeats 2000000
namespace L2
open PySem PySem.Spec PyProof.Rows
section
variable {P : Program} {w : World} {A : Around} {E : Value → Shared → Prop}
end
end L2
set_option Elab.async false
set_option linter.all false
set_option maxRecDepth 100000
set_option maxHeartbeats 4000000
namespace PySem
section
variable {prog : Program} {w : World} {A : Around} {E : Value → Shared → Prop} {s : Shared}
end
end PySem
namespace L2
open PySem PySem.Spec PyProof.Rows
section
variable {P : Program} {w : World} {A : Around} {R : Result → Shared → Prop} {I : Addr} {fp wr : List Addr} {G : Array GenState → Array GenState → Prop} {n : Nat} {Pv : Nat → Value → Prop} {St : Nat → Shared → Prop}
end
end L2
namespace PySem
open L2
section
variable {prog : Program} {w : World} {A : Around} {E : Value → Shared → Prop} {s : Shared}
end
end PySem
set_option Elab.async false
set_option linter.all false
set_option maxRecDepth 100000
set_option maxHeartbeats 4000000
namespace PySem.F
end PySem.F
namespace L2
open PySem PySem.Spec PyProof.Rows
section
variable {P : Program} {w : World} {A : Around} {E : Value → Shared → Prop} {s : Shared}
end
end L2
set_option Elab.async false
set_option linter.all false
set_option maxRecDepth 100000
set_option maxHeartbeats 4000000
namespace L2
open PySem PySem.Spec PyProof.Rows
section
variable {P : Program} {w : World} {A : Around} {E : Value → Shared → Prop} {s : Shared}
end
end L2
set_option Elab.async false
set_option linter.all false
set_option maxRecDepth 100000
set_option maxHeartbeats 4000000
namespace L2
open PySem PySem.Spec PyProof.Rows
section
variable {P : Program} {w : World} {A : Around} {E : Value → Shared → Prop} {s : Shared}
end
end L2
set_option Elab.async false
set_option linter.all false
set_option maxRecDepth 100000
set_option maxHeartbeats 4000000
namespace L2
open PySem PySem.Spec PyProof.Rows
section
variable {P : Program} {w : World} {A : Around} {E : Value → Shared → Prop} {s : Shared}
end
end L2
set_option Elab.async false
set_option linter.all false
set_option maxRecDepth 100000
set_option maxHeartbeats 1000000
namespace L2
open PySem PySem.Spec PyProof.Rows
theorem smlt {n m : Nat} (h : n ≤ m) (hm : m + 1 ≤ 1000000 := by decide) : n < sizeLine := small (n := n + 1) (m := m + 1) (Nat.succ_le_succ h) hm
def del (H : Hp) (g : Addr) : Hp := fun b => if b = g then none else H b
theorem del_at {H : Hp} {g b : Addr} (h : b ≠ g) : del H g b = H b := if_neg h
theorem del_upd {H : Hp} {g : Addr} {o : HO} : del (upd H g o) g = del H g := by
  funext b
  by_cases e : b = g
  · unfold del; rw [if_pos e, if_pos e]
  · rw [del_at e, del_at e, upd_ne e]
theorem del_same (H : Hp) (g : Addr) : Same (del H g) H := fun b o e => by
  by_cases q : b = g
  · unfold del at e; rw [if_pos q] at e; cases e
  · rw [del_at q] at e; exact e
theorem del_mono {H H' : Hp} (s : Same H H') (g : Addr) : Same (del H g) (del H' g) := fun b o e => by
  by_cases q : b = g
  · unfold del at e; rw [if_pos q] at e; cases e
  · rw [del_at q] at e; rw [del_at q]; exact s b o e
def home (H H2 : Hp) (g : Addr) : Hp := newp H (del H2 g)
structure Bld {α : Type} (R : Rel α) (H H2 : Hp) (g : Addr) (xs : List α) : Prop where
  g0 : H g = none
  s : Same H H2
  ex : ∃ vs, H2 g = some (.lst vs) ∧ Paired (R (home H H2 g)) xs vs
section
variable {α : Type} {R : Rel α} {H H1 H2 H3 : Hp} {g : Addr} {xs : List α}
theorem Bld.start (s : Same H H1) (h : H1 g = none) : Bld R H (upd H1 g (.lst [])) g [] := ⟨s.free h, s.trans (same_upd h _), [], upd_same, .nil⟩
theorem Bld.go (m : MonoR R) (b : Bld R H H2 g xs) (s : Same H2 H3) : Bld R H H3 g xs := by
  obtain ⟨g0, s0, vs, h, p⟩ := b
  exact ⟨g0, s0.trans s, vs, s _ _ h, paired_mono m (newp_mono (Same.refl _) (del_mono s g)) p⟩
theorem Bld.push (m : MonoR R) (b : Bld R H H2 g xs) (s : Same H2 H3) {x : α} {v : V} (r : R (newp H2 H3) x v) : ∃ vs, H3 g = some (.lst vs) ∧ vs.length = xs.length ∧ Bld R H (upd H3 g (.lst (vs ++ [v]))) g (xs ++ [x]) := by
  have b3 := b.go m s
  obtain ⟨g0, s0, vs, h, p⟩ := b3
  refine ⟨vs, h, p.length.symm, g0, s0.put g0 _, vs ++ [v], upd_same, ?_⟩
  have e : home H (upd H3 g (.lst (vs ++ [v]))) g = home H H3 g := by unfold home; rw [del_upd]
  rw [e]
  refine Paired.app p (.cons (m.up (fun c o q => ?_) r) .nil)
  have hc2 : H2 c = none := by
    cases z : H2 c with
    | none => rfl
    | some u => rw [newp_none z] at q; cases q
  rw [newp_at hc2] at q
  have hcg : c ≠ g := fun z => by subst z; rw [b.ex.choose_spec.1] at hc2; cases hc2
  unfold home
  rw [newp_at (b.s.free hc2), del_at hcg]; exact q
theorem Bld.done (m : MonoR R) (b : Bld R H H2 g xs) : rLst R (newp H H2) xs (.ref g) := by
  obtain ⟨g0, s0, vs, h, p⟩ := b
  exact ⟨g, vs, rfl, by rw [newp_at g0]; exact h, paired_mono m (newp_mono (Same.refl _) (del_same _ _)) p⟩
theorem Bld.sq (b : Bld R H H2 g xs) : ∃ vs, H2 g = some (.lst vs) ∧ vs.length = xs.length := by
  obtain ⟨vs, h, p⟩ := b.ex
  exact ⟨vs, h, p.length.symm⟩
end
theorem atI_z {vs : List V} {i : Nat} {v : V} (h : vs[i]? = some v) : atI vs ((0 : Int) + (i : Nat)) = some v := by rw [Int.zero_add]; exact atI_nat h
section
variable {X : Cx} {K : PySem.W.Frag} (hK : X.K = K)
include hK
theorem ixL : IxR X (rIxL K) := by subst hK; exact ix_list
theorem ixT : IxR X (rIxT K) := by subst hK; exact ix_tup
theorem slL : SlR X (rSlL K) := by subst hK; exact sl_list
theorem clLen : CallR X (.builtin "len") (fun xs H Q => ∃ p ys, xs = [.ref p] ∧ (SqL K H p ys ∨ SqT K H p ys) ∧ Q (.int ys.length) H) := by subst hK; exact call_len_seq
theorem clList : CallR X (.type "list") (fun xs H Q => ∃ p ys, xs = [.ref p] ∧ (SqL K H p ys ∨ SqT K H p ys) ∧ ∀ l, H l = none → Q (.ref l) (upd H l (.lst ys))) := by subst hK; exact call_list_of
theorem clIsi {T : String} : CallR X (.builtin "isinstance") (fun xs H Q => ∃ x S b, xs = [x, .ty T] ∧ kindV H x S ∧ PySem.W.kitOne K (.type S) (.type T) = some b ∧ Q (.bl b) H) := by subst hK; exact call_isi
theorem ptg2 {x y : Str} {p1 p2 pos : Pos} {k : Nat} (hc : X.calm = true) (hN : X.N.Nodup) (h0 : X.N[0]? = some x) (h1 : X.N[1]? = some y) (hx : X.env.scope.names.lookup x = some .local) (hy : X.env.scope.names.lookup y = some .local) :
    PTg X 2 (.Tuple [.Name x p1, .Name y p2] k pos) (ttTup K 2) := by subst hK; exact ptg_tup2 hc hN h0 h1 hx hy
end
theorem comp_listD {K : PySem.W.Frag} {a : Addr} {xs : List V} {tt : TTg} {tc : TT} {te : TE} {cap : List Nat} {σ : St} {H : Hp} {D : Addr → List V → Hp → Prop} (Pv : Nat → List V → Hp → Prop) (h0 : Pv 0 [] H) (hz : xs.length ≤ sizeLine) (hl : ∀ i ys H, i ≤ xs.length → Pv i ys H → SqL K H a xs ∧ ys.length ≤ i)
    (hs : ∀ i x ys H, xs[i]? = some x → Pv i ys H → tt x H fun ws => tc (ws.map some ++ capS σ cap) H fun b H4 => if b = true then te (ws.map some ++ capS σ cap) H4 fun y H5 => Pv (i + 1) (ys ++ [y]) H5 else Pv (i + 1) ys H4)
    (hd : ∀ ys H, Pv xs.length ys H → ∀ p, H p = none → D p ys H) :
    ∃ W : Nat → Nat → List V → Hp → Prop, (∃ m, W 0 m [] H) ∧ ∀ i m ys H2, W i m ys H2 →
    ((Itl K a).stop i H2 ∧ ys.length ≤ sizeLine ∧ ∀ p, H2 p = none → D p ys H2) ∨
    ((Itl K a).go i H2 ∧ ∃ N : List V → Hp → Prop, (∀ ys' H', N ys' H' → ys'.length ≤ sizeLine ∧ ∃ m', m' < m ∧ W (i + 1) m' ys' H') ∧
      ∀ x H3, (Itl K a).yld i H2 x H3 → tt x H3 fun ws => tc (ws.map some ++ capS σ cap) H3 fun b H4 =>
        if b = true then te (ws.map some ++ capS σ cap) H4 fun y H5 => N (ys ++ [y]) H5 else N ys H4) := by
  refine ⟨fun i m ys H => m = xs.length - i ∧ i ≤ xs.length ∧ Pv i ys H, ⟨xs.length, by simp, Nat.zero_le _, h0⟩, ?_⟩
  rintro i m ys H2 ⟨rfl, hi, p⟩
  obtain ⟨q, hy⟩ := hl i ys H2 hi p
  by_cases hlt : i < xs.length
  · refine .inr ⟨⟨xs, xs[i], q, by simp [hlt]⟩, Pv (i + 1), fun ys' H' r => ?_, fun x H3 y => ?_⟩
    · obtain ⟨_, h2⟩ := hl (i + 1) ys' H' hlt r
      exact ⟨by omega, xs.length - (i + 1), by omega, rfl, hlt, r⟩
    · obtain ⟨e, y⟩ := y
      subst e
      exact hs i x ys _ (y xs q) p
  · have e : i = xs.length := by omega
    subst e
    exact .inl ⟨⟨xs, q, Nat.le_refl _⟩, by omega, hd ys H2 p⟩
end L2
set_option Elab.async false
set_option linter.all false
set_option maxRecDepth 100000
set_option maxHeartbeats 1000000
namespace L2
open PySem PySem.Spec PyProof.Rows
theorem Inv.turnedL {X : Cx} {pins : List (Addr × Obj)} {σ : St} {H : Hp} {s : Shared} {h' : Heap} {t' : Nat} {ch : List Addr} (I : Inv X pins σ H s) (hf : ∀ b ∈ ch, FpOk X pins H b) (k : ∀ b o, b ∉ ch → s.heap.get? b = some o → h'.get? b = some o) :
    Inv X pins σ H { s with heap := h', toks := t' } := by
  have nit : ∀ b u, H b = some u → b ∉ ch := fun b u e z => by rw [(hf b z).1] at e; cases e
  refine I.step (g' := s.gens) (d' := s.drawn) (ch := ch) (fun b hb => ?_) (fun b o _ _ hc e _ => k b o hc e) (fun b o _ _ hc e _ => ⟨o.slots, k b o hc e⟩) (fun _ _ _ _ n => n)
    (fun b o hc e => ⟨o, k b o hc e⟩) (fun _ _ e => e) (fun _ _ _ e => e) (fun b ps e => ⟨#[], by rw [e]; simp⟩) (fun m hm => ?_) (fun b u e => ?_) I.bare
  · obtain ⟨_, h1, _, h3, h4, h5⟩ := hf b hb
    exact ⟨h3, h1, h4, h5⟩
  · obtain ⟨o, es, ep, ho, r⟩ := hm
    exact ⟨o, es, ep, k _ o (fun z => (hf _ z).2.1 rfl) ho, r⟩
  · refine (I.hok b u e).stay (fun c v hc q => k c v ?_ q) (fun _ q => q) fun _ _ q => q
    rcases hc with z | z
    · rw [z]; exact nit b u e
    · exact nit c _ z
theorem Inv.adopt {X : Cx} {pins : List (Addr × Obj)} {σ : St} {H : Hp} {s : Shared} {T : Addr} {o : HO} (I : Inv X pins σ H s) (hf : FpOk X pins H T) (new : ObjOk X.prog X.w (upd H T o) s.heap T o) : Inv X pins σ (upd H T o) s := by
  obtain ⟨h0, h1, h2, h3, h4, h5⟩ := hf
  refine I.step (h' := s.heap) (g' := s.gens) (d' := s.drawn) (t' := s.toks) (ch := [T]) (fun b hb => ?_) (fun b u _ _ _ e _ => e) (fun b u _ _ _ e _ => ⟨u.slots, e⟩) (fun b u hc e n => ?_)
    (fun b u _ e => ⟨u, e⟩) (fun b xs e => ?_) (fun b u v e => ?_) (fun b ps e => ⟨#[], ?_⟩) (fun m hm => hm) (I.hok.adopt h0 new) I.bare
  · have e : b = T := by simpa using hb
    subst e
    exact ⟨h3, h1, h4, h5⟩
  · rw [upd_ne (fun z => hc (by simp [z]))]; exact n
  · rw [upd_ne (ne_of_none e h0)]; exact e
  · rw [upd_ne (ne_of_none e h0)]; exact e
  · rw [upd_ne (ne_of_none e h0), e]; simp
def Ite (K : PySem.W.Frag) (a : Addr) : It :=
  ⟨fun i H => ∃ xs x, SqL K H a xs ∧ xs[i]? = some x, fun i H v H' => ∃ T x, v = .ref T ∧ H T = none ∧ (∀ xs, SqL K H a xs → xs[i]? = some x) ∧ H' = upd H T (.tup [.int (i : Nat), x]), fun i H => ∃ xs, SqL K H a xs ∧ xs.length ≤ i⟩
theorem turn_enum {P : Program} {w : World} {K : PySem.W.Frag} {elts : List Expr} {k : Nat} {pos : Pos} (a e it : Addr) (hne : e ≠ it) : Turn P w K (.Tuple elts k pos) (Ite K a) [e, it] e (fun i h => (∃ old, IsEnum h e it (i : Nat) old) ∧ h.IsListIter it a i) where
  mem := by simp
  obj := fun i h st b hb => by
    obtain ⟨⟨old, s1⟩, o, e1, c, d⟩ := st
    rcases List.mem_cons.mp hb with z | z
    · subst z
      exact ⟨_, s1, fun v z => by cases z⟩
    · have z : b = it := by simpa using z
      subst z
      exact ⟨o, e1, fun v z => by rw [d] at z; cases z⟩
  keep := fun i h h' st k => ⟨by obtain ⟨⟨old, s1⟩, _⟩ := st; exact ⟨old, k e (by simp) _ s1⟩, st.2.at fun o q => k it (by simp) o q⟩
  item := by
    intro X hP hw hK hc i pins s σ H E I hf st hg
    subst hP hw hK
    obtain ⟨xs, x, hq, hx⟩ := hg
    obtain ⟨its, rv, p, hz⟩ := I.list hq
    obtain ⟨u, hu, ru⟩ := rv.get hx
    obtain ⟨⟨old, s1⟩, s2⟩ := st
    have le : e < s.heap.objs.size := Heap.lt_size s1
    refine wpAny_pyNext_enum_item s1 s2 p.isList (x := u) (by simpa using hu) hne fun h' ho hi' ht hsz kp => ?_
    refine ⟨_, rfl, wpAny_letOwnedTupleGo_enum ho fun h2 he2 sb => ?_⟩
    have I1 : Inv X pins σ H { s with heap := h2, toks := s.toks + 1 } := I.turnedL (t' := s.toks + 1) (ch := [e, it]) hf fun b o hb q => by
      have hbe : b ≠ e := fun z => hb (by simp [z])
      have hbi : b ≠ it := fun z => hb (by simp [z])
      exact (sb.2 b hbe).trans (kp b o hbe hbi q)
    have hT : h2.get? s.heap.objs.size = some { cls := .type "tuple", data := .seq #[Value.int (i : Nat) s.toks, u] } := (sb.2 _ (Nat.ne_of_gt le)).trans ht
    have hfr : H s.heap.objs.size = none := I.hok.fresh (Nat.le_refl _)
    have vs2 : Vals [V.int (i : Nat), x] [Value.int (i : Nat) s.toks, u] := .cons ⟨s.toks, rfl⟩ (.cons ru .nil)
    have I2 := I1.adopt (o := .tup [.int (i : Nat), x]) (I.fpOk (Nat.le_refl _) hfr) ⟨(by show 2 ≤ sizeLine; decide), [Value.int (i : Nat) s.toks, u], vs2, ⟨_, hT, rfl, _, rfl⟩⟩
    have en : IsEnum h2 e it ((i + 1 : Nat) : Int) u := by
      have e1 : ((i + 1 : Nat) : Int) = ((i : Nat) : Int) + 1 := by omega
      rw [e1]; exact he2
    refine ⟨.ref s.heap.objs.size, _, I2, rfl, ⟨_, x, rfl, hfr, fun ys hy => by rw [I.list_inj hy hq]; exact hx, rfl⟩, ⟨⟨u, en⟩, hi'.at fun o q => (sb.2 it (Ne.symm hne)).trans q⟩, fun b hb => ?_⟩
    rw [upd_ne (fun z => ?_)]
    · exact (hf b hb).1
    · subst z
      rcases List.mem_cons.mp hb with z | z
      · exact absurd z (Nat.ne_of_gt le)
      · have z : s.heap.objs.size = it := by simpa using z
        obtain ⟨o, q, _⟩ := s2
        exact absurd z (Nat.ne_of_gt (Heap.lt_size q))
  done := by
    intro X hP hw hK hc i pins s σ H E I hf st hg
    subst hP hw hK
    obtain ⟨xs, hq, hx⟩ := hg
    obtain ⟨its, rv, p, hz⟩ := I.list hq
    obtain ⟨⟨old, s1⟩, s2⟩ := st
    have hl := rv.length
    refine wpAny_pyNext_enum_end (I.ok.hd hc) s1 s2 p.isList (by simp; omega) fun h' eb => ⟨rfl, ?_⟩
    exact I.turnedL (t' := s.toks) (ch := [it]) (fun b hb => hf b (List.mem_cons_of_mem _ hb)) fun b o hb q => eb b o (fun z => hb (by simp [z])) q
  self := fun _ _ _ _ _ st h => wpAny_pyIter_enum st.1.choose_spec h
def iEnum (K : PySem.W.Frag) (ta : TA) : TI := fun σ H R => ta σ H fun vs H1 => ∃ a, vs = [.ref a] ∧ (∃ xs, SqL K H1 a xs) ∧ R (Ite K a) H1
theorem pi_enum {X : Cx} {K : PySem.W.Frag} {elts : List Expr} {k : Nat} {tpos : Pos} {l : Expr} {ta : TA} {p pos : Pos} (hK : X.K = K) (hg : Gl X "enumerate") (hm : X.mg "enumerate" = none) (ha : PA X [l] ta) (hs : starEach [l] X.env = [(false, eval l X.env)] := by rfl) :
    PI X (.Tuple elts k tpos) (.Call (.Name "enumerate" p) [l] [] pos) (iEnum K ta) := by
  subst hK
  intro pins s σ H R I h
  refine Call_ (ld_blt I hg hm PyProof.Rows.boot_enumerate (PyProof.Rows.callWith_type1 (thn (ha pos pins s σ H _ I h) fun us s1 hm0 => ?_) hs rfl))
  obtain ⟨vs, H1, I1, r1, q1⟩ := hm0
  obtain ⟨a, rfl, ⟨xs, hq⟩, q⟩ := q1
  obtain ⟨u, rfl, ru⟩ := vals1 r1
  cases ru
  obtain ⟨its, rv, p, hz⟩ := I1.list hq
  refine call_enumerate_list p.isList fun h' he hi hsz kp => ?_
  refine wpAny_pyIter_enum he ?_
  refine ⟨s1.heap.objs.size + 1, [s1.heap.objs.size + 1, s1.heap.objs.size], _, _, H1, rfl, I1.kept (t' := s1.toks) kp, turn_enum a _ _ (Nat.succ_ne_self _), ⟨⟨_, he⟩, hi⟩, fun b hb => ?_, q⟩
  have hb' : s1.heap.objs.size ≤ b := by
    rcases List.mem_cons.mp hb with z | z
    · rw [z]; exact Nat.le_succ _
    · have z : b = s1.heap.objs.size := by simpa using z
      rw [z]; exact Nat.le_refl _
  exact I1.fpOk hb' (I1.hok.fresh hb')
end L2
set_option Elab.async false
set_option linter.all false
set_option maxRecDepth 100000
set_option maxHeartbeats 1000000
namespace L2
open PySem
section
variable {H H' : Hp} {r : Addr} {as : List Addr} {Ls : List (List Int)}
end
end L2
set_option Elab.async false
set_option linter.all false
set_option maxRecDepth 100000
set_option maxHeartbeats 1000000
namespace L2
open PySem PySem.Spec PyProof.Rows
section
variable {X : Cx}
end
end L2
set_option Elab.async false
set_option linter.all false
set_option maxRecDepth 100000
set_option maxHeartbeats 1000000
namespace L2
open PySem PySem.Spec PyProof.Rows
section
variable {X : Cx}
end
end L2
set_option Elab.async false
set_option linter.all false
set_option maxRecDepth 100000
set_option maxHeartbeats 1000000
namespace L2
open PySem PySem.Spec PyProof.Rows
def Itz (K : PySem.W.Frag) (a b : Addr) : It :=
  ⟨fun i H => ∃ xs ys x y, SqL K H a xs ∧ SqL K H b ys ∧ xs[i]? = some x ∧ ys[i]? = some y,
   fun i H v H' => ∃ T x y, v = .ref T ∧ H T = none ∧ (∀ xs, SqL K H a xs → xs[i]? = some x) ∧ (∀ ys, SqL K H b ys → ys[i]? = some y) ∧ H' = upd H T (.tup [x, y]),
   fun i H => ∃ xs ys, SqL K H a xs ∧ SqL K H b ys ∧ (xs.length ≤ i ∨ ys.length ≤ i)⟩
structure ZTurn (a b z TI TO i1 i2 : Addr) (i : Nat) (h : Heap) : Prop where
  zz : IsZip h z TI TO .none
  ti : IsPair h TI (.ref i1) (.ref i2)
  to : ∃ p q, IsPair h TO p q
  s1 : h.IsListIter i1 a i
  s2 : h.IsListIter i2 b i
theorem turn_zip {P : Program} {w : World} {K : PySem.W.Frag} {elts : List Expr} {k : Nat} {pos : Pos} (a b z TI TO i1 i2 : Addr) (ap : ZipApart z TI TO i1 i2 a b) : Turn P w K (.Tuple elts k pos) (Itz K a b) [z, TI, TO, i1, i2] z (ZTurn a b z TI TO i1 i2) where
  mem := by simp
  obj := fun i h st c hc => by
    obtain ⟨zz, ti, ⟨p, q, to⟩, ⟨o1, e1, c1, d1⟩, ⟨o2, e2, c2, d2⟩⟩ := st
    simp only [List.mem_cons, List.not_mem_nil, or_false] at hc
    rcases hc with rfl | rfl | rfl | rfl | rfl
    · exact ⟨_, zz, fun v z => by cases z⟩
    · exact ⟨_, ti, fun v z => by cases z⟩
    · exact ⟨_, to, fun v z => by cases z⟩
    · exact ⟨o1, e1, fun v z => by rw [d1] at z; cases z⟩
    · exact ⟨o2, e2, fun v z => by rw [d2] at z; cases z⟩
  keep := fun i h h' st k => by
    obtain ⟨zz, ti, ⟨p, q, to⟩, s1, s2⟩ := st
    exact ⟨k z (by simp) _ zz, k TI (by simp) _ ti, ⟨p, q, k TO (by simp) _ to⟩, s1.at fun o q => k i1 (by simp) o q, s2.at fun o q => k i2 (by simp) o q⟩
  item := by
    intro X hP hw hK hc i pins s σ H E I hf st hg
    subst hP hw hK
    obtain ⟨xs, ys, x, y, hq, hq2, hx, hy⟩ := hg
    obtain ⟨its, rv, p, hz⟩ := I.list hq
    obtain ⟨its2, rv2, p2, hz2⟩ := I.list hq2
    obtain ⟨u, hu, ru⟩ := rv.get hx
    obtain ⟨u2, hu2, ru2⟩ := rv2.get hy
    obtain ⟨zz, ti, ⟨pp, qq, to⟩, s1, s2⟩ := st
    have lz : z < s.heap.objs.size := Heap.lt_size zz
    refine wpAny_pyNext_zip_item ap zz ti to s1 s2 p.isList p2.isList (x := u) (y := u2) (by simpa using hu) (by simpa using hu2) fun h' zo to' s1' s2' ht hsz kp => ?_
    refine ⟨_, rfl, wpAny_letOwnedTupleGo_zip zo fun h2 zz2 sb => ?_⟩
    have I1 : Inv X pins σ H { s with heap := h2 } := I.turnedL (t' := s.toks) (ch := [z, TI, TO, i1, i2]) hf fun c o hc q => by
      simp only [List.mem_cons, List.not_mem_nil, or_false, not_or] at hc
      exact (sb.2 c hc.1).trans (kp c o hc.1 hc.2.2.1 hc.2.2.2.1 hc.2.2.2.2 q)
    have hT : h2.get? s.heap.objs.size = some { cls := .type "tuple", data := .seq #[u, u2] } := (sb.2 _ (Nat.ne_of_gt lz)).trans ht
    have hfr : H s.heap.objs.size = none := I.hok.fresh (Nat.le_refl _)
    have I2 := I1.adopt (o := .tup [x, y]) (I.fpOk (Nat.le_refl _) hfr) ⟨(by show 2 ≤ sizeLine; decide), [u, u2], .cons ru (.cons ru2 .nil), ⟨_, hT, rfl, _, rfl⟩⟩
    have hti : IsPair h2 TI (.ref i1) (.ref i2) := (sb.2 TI ap.TIz).trans (kp TI _ ap.TIz ap.TITO ap.TIi1 ap.TIi2 ti)
    refine ⟨.ref s.heap.objs.size, _, I2, rfl, ⟨_, x, y, rfl, hfr, (fun zs hzs => by rw [I.list_inj hzs hq]; exact hx), (fun zs hzs => by rw [I.list_inj hzs hq2]; exact hy), rfl⟩,
      ⟨zz2, hti, ⟨u, u2, (sb.2 TO ap.TOz).trans to'⟩, s1'.at fun o q => (sb.2 i1 ap.i1z).trans q, s2'.at fun o q => (sb.2 i2 ap.i2z).trans q⟩, fun c hc => ?_⟩
    rw [upd_ne (fun e => ?_)]
    · exact (hf c hc).1
    · subst e
      obtain ⟨o1, e1, _⟩ := s1
      obtain ⟨o2, e2, _⟩ := s2
      simp only [List.mem_cons, List.not_mem_nil, or_false] at hc
      rcases hc with h | h | h | h | h
      · exact absurd h (Nat.ne_of_gt lz)
      · exact absurd h (Nat.ne_of_gt (Heap.lt_size ti))
      · exact absurd h (Nat.ne_of_gt (Heap.lt_size to))
      · exact absurd h (Nat.ne_of_gt (Heap.lt_size e1))
      · exact absurd h (Nat.ne_of_gt (Heap.lt_size e2))
  done := by
    intro X hP hw hK hc i pins s σ H E I hf st hg
    subst hP hw hK
    obtain ⟨xs, ys, hq, hq2, hx⟩ := hg
    obtain ⟨its, rv, p, hz⟩ := I.list hq
    obtain ⟨its2, rv2, p2, hz2⟩ := I.list hq2
    have hl := rv.length
    have hl2 := rv2.length
    obtain ⟨zz, ti, ⟨pp, qq, to⟩, s1, s2⟩ := st
    refine wpAny_pyNext_zip_end (I.ok.hd hc) ap zz ti to s1 s2 p.isList p2.isList ?_ fun h' kp => ⟨rfl, ?_⟩
    · rcases hx with h | h
      · exact .inl (by simp; (clear hc hf hz hz2 hl2; omega))
      · exact .inr (by simp; (clear hc hf hz hz2 hl; omega))
    · exact I.turnedL (t' := s.toks) (ch := [z, TI, TO, i1, i2]) hf fun c o hc q => by
        simp only [List.mem_cons, List.not_mem_nil, or_false, not_or] at hc
        exact kp c o hc.1 hc.2.2.1 hc.2.2.2.1 hc.2.2.2.2 q
  self := fun _ _ _ _ _ st h => wpAny_pyIter_zip st.zz h
theorem zip_apart (n a b : Nat) (la : a < n) (lb : b < n) : ZipApart (n + 4) (n + 2) (n + 3) n (n + 1) a b := by
  constructor
  all_goals (intro h; have h' : (_ : Nat) = _ := h; omega)
def iZip (K : PySem.W.Frag) (ta : TA) : TI := fun σ H R => ta σ H fun vs H1 => ∃ a b, vs = [.ref a, .ref b] ∧ (∃ xs, SqL K H1 a xs) ∧ (∃ ys, SqL K H1 b ys) ∧ R (Itz K a b) H1
theorem pi_zip {X : Cx} {K : PySem.W.Frag} {elts : List Expr} {k : Nat} {tpos : Pos} {l l2 : Expr} {ta : TA} {p pos : Pos} (hK : X.K = K) (hg : Gl X "zip") (hm : X.mg "zip" = none) (ha : PA X [l, l2] ta) (hs : starEach [l, l2] X.env = (false, eval l X.env) :: starEach [l2] X.env := by rfl)
    (hs2 : (backTo pos (starEach [l2] X.env)).any (·.1) = false := by rfl) :
    PI X (.Tuple elts k tpos) (.Call (.Name "zip" p) [l, l2] [] pos) (iZip K ta) := by
  subst hK
  intro pins s σ H R I h
  refine Call_ (ld_blt I hg hm PyProof.Rows.boot_zip (PyProof.Rows.callWith_type1 (thn (ha pos pins s σ H _ I h) fun us s1 hm0 => ?_) hs hs2))
  obtain ⟨vs, H1, I1, r1, q1⟩ := hm0
  obtain ⟨a, b, rfl, ⟨xs, hq⟩, ⟨ys, hq2⟩, q⟩ := q1
  cases r1 with
  | cons ra rr =>
    cases ra
    obtain ⟨u, rfl, ru⟩ := vals1 rr
    cases ru
    obtain ⟨its, rv, p, hz⟩ := I1.list hq
    obtain ⟨its2, rv2, p2, hz2⟩ := I1.list hq2
    have la : a < s1.heap.objs.size := by obtain ⟨o, e, _⟩ := p.isList; exact Heap.lt_size e
    have lb : b < s1.heap.objs.size := by obtain ⟨o, e, _⟩ := p2.isList; exact Heap.lt_size e
    refine call_zip_2 p.isList p2.isList fun h' zz ti to i1 i2 hsz kp => ?_
    refine wpAny_pyIter_zip zz ?_
    refine ⟨s1.heap.objs.size + 4, [s1.heap.objs.size + 4, s1.heap.objs.size + 2, s1.heap.objs.size + 3, s1.heap.objs.size, s1.heap.objs.size + 1], _, _, H1, rfl, I1.kept (t' := s1.toks) kp, turn_zip a b _ _ _ _ _ (zip_apart _ a b la lb), ⟨zz, ti, ⟨_, _, to⟩, i1, i2⟩, fun c hc => ?_, q⟩
    have hc' : s1.heap.objs.size ≤ c := by
      simp only [List.mem_cons, List.not_mem_nil, or_false] at hc
      rcases hc with rfl | rfl | rfl | rfl | rfl
      · exact Nat.le_add_right _ _
      · exact Nat.le_add_right _ _
      · exact Nat.le_add_right _ _
      · exact Nat.le_refl _
      · exact Nat.le_add_right _ _
    exact I1.fpOk hc' (I1.hok.fresh hc')
theorem for_zip {K : PySem.W.Frag} {a b : Addr} {xs ys : List V} {g : TG} {tb : TS} {D : Ends} {σ : St} {H : Hp} (hlen : xs.length = ys.length) (Pv : Nat → St → Hp → Prop) (h0 : Pv 0 σ H) (hl : ∀ i σ H, i ≤ xs.length → Pv i σ H → SqL K H a xs ∧ SqL K H b ys)
    (hs : ∀ i x y σ H T, xs[i]? = some x → ys[i]? = some y → Pv i σ H → H T = none → g (.ref T) σ (upd H T (.tup [x, y])) fun σ2 H2 => tb { D with nx := Pv (i + 1), ct := Pv (i + 1), bk := D.nx } σ2 H2) (hd : ∀ σ H, Pv xs.length σ H → D.nx σ H) :
    ∃ W : Nat → Nat → St → Hp → Prop, (∃ m, W 0 m σ H) ∧ ∀ i m σ H, W i m σ H →
      ((Itz K a b).stop i H ∧ D.nx σ H) ∨ ((Itz K a b).go i H ∧ ∃ N : St → Hp → Prop, (∀ σ' H', N σ' H' → ∃ m', m' < m ∧ W (i + 1) m' σ' H') ∧ ∀ x H', (Itz K a b).yld i H x H' → g x σ H' fun σ2 H2 => tb { D with nx := N, ct := N, bk := D.nx } σ2 H2) := by
  refine ⟨fun i m σ H => m = xs.length - i ∧ i ≤ xs.length ∧ Pv i σ H, ⟨xs.length, by simp, Nat.zero_le _, h0⟩, ?_⟩
  rintro i m σ H ⟨rfl, hi, p⟩
  obtain ⟨q, q2⟩ := hl i σ H hi p
  by_cases hlt : i < xs.length
  · refine .inr ⟨⟨xs, ys, xs[i], ys[i]'(by omega), q, q2, by simp [hlt], by simp⟩, Pv (i + 1), fun σ' H' p' => ⟨xs.length - (i + 1), by (clear hlen hl hs hd hi; omega), rfl, hlt, p'⟩, fun x H' y => ?_⟩
    obtain ⟨T, u, v, rfl, hT, e1, e2, rfl⟩ := y
    exact hs i u v σ _ T (e1 xs q) (e2 ys q2) p hT
  · have e : i = xs.length := by (clear hlen hl hs hd; omega)
    subst e
    exact .inl ⟨⟨xs, ys, q, q2, .inl (Nat.le_refl _)⟩, hd σ H p⟩
section
variable {X : Cx}
end
end L2
set_option Elab.async false
set_option linter.all false
set_option maxRecDepth 100000
set_option maxHeartbeats 4000000
namespace L2
open PySem PySem.Spec PyProof.Rows
section
variable {P : Program} {w : World} {A : Around} {E : Value → Shared → Prop} {s : Shared}
end
end L2
set_option Elab.async false
set_option linter.all false
set_option maxRecDepth 100000
set_option maxHeartbeats 1000000
namespace L2
open PySem PySem.Spec PySem.W PyProof.Rows PySem.Builtin PySem.Builtin.ObjectAttr PySem.Builtin.Getset_descriptor
structure XcK (K : Frag) (C : Addr) : Prop where
  ga : findIn K (.ref C) "__getattribute__" = some (some (.builtin "BaseException.__getattribute__"))
  gn : findIn K (.ref C) "__getattr__" = some none
  cl : findIn K (.ref C) "__class__" = some (some (.builtin "object.__class__"))
  sp : specialIn K (.builtin "object.__class__") "__get__" = some (some (.builtin "getset_descriptor.__get__"))
  tk : takesIn K (.builtin "object.__class__") = some true
  mo : mroIn K C (.type "object") = some true
  me : mroIn K C (.type "BaseException") = some true
  ci : (clsIn K C).isSome = true
def XObj (e C : Addr) (h : Heap) : Prop := ∃ (o : Obj) (vs : Array Value), h.get? e = some o ∧ o.cls = .ref C ∧ o.data = .fields vs
theorem XObj.ty {e C : Addr} {h : Heap} {M : Model} (x : XObj e C h) : Looks M h (typeOf (.ref e)) (.ref C) := by
  obtain ⟨o, vs, h1, h2, _⟩ := x
  rw [← h2]
  exact (Looks.ld h1).andThen .now
theorem XObj.keeps {e C : Addr} {h h' : Heap} (x : XObj e C h) (k : ∀ o, h.get? e = some o → h'.get? e = some o) : XObj e C h' := let ⟨o, vs, h1, h2⟩ := x; ⟨o, vs, k o h1, h2⟩
section
variable {prog : Program} {w : World} {A : Around} {E : Value → Shared → Prop} {s : Shared} {K : Frag} {x C : Addr}
theorem xc_find {M : Model} {h : Heap} (Z : XcK K C) (X : K.In h) : Looks M h (Builtin.ObjectAttr.find (.ref x) (.ref C) "__class__") (.bind (.builtin "getset_descriptor.__get__") (.builtin "object.__class__")) := by
  have L3 := looks_takesIn (M := M) X Z.tk
  have L4 : Looks M h (Builtin.ObjectAttr.dataDescriptor? (some (.builtin "object.__class__")) (some (.builtin "getset_descriptor.__get__"))) (some (.builtin "getset_descriptor.__get__", .builtin "object.__class__")) := L3.andThen .now
  have L2 : Looks M h (Builtin.ObjectAttr.getOf (some (.builtin "object.__class__"))) (some (.builtin "getset_descriptor.__get__")) := looks_specialIn X Z.sp
  exact (looks_findIn X Z.cl).andThen (L2.andThen (L4.andThen (Looks.tag .now)))
theorem xc_get {tp : Value} {R : Result → Shared → Prop} (Z : XcK K C) (X : K.In s.heap) (I : XObj x C s.heap) (h : R (.ok (.ret (.ref C))) s) :
    codeAny (model prog w) A (.call (.builtin "getset_descriptor.__get__") ⟨[.builtin "object.__class__", .ref x, tp], []⟩) R s := by
  obtain ⟨hp, gs, dr, tk, os⟩ := s
  have T0 := I.ty (M := model prog w)
  have T1 := looks_mroIn (M := model prog w) X Z.mo
  refine codeAny_call_builtin KF.slot_gs.plain KF.entry_gs ?_
  refine KF.slot_gs.check _ _ _ _ _ _ _ _ KF.type_class (KF.args_gs _ _ _) ?_
  unfold Builtin.«getset_descriptor.__get__»
  unfold descrGet
  rw [dga_obj]
  apply wpAny_bind
  apply wpAny_pure
  unfold descrGetter descrCheckInstance
  unfold descrNameAndClass isInstance
  simp only [KF.owner_class]
  repeat lk
  constructor
  · exact Code.quiet_builtin _ (by decide +kernel)
  · apply codeAny_builtin KF.entry_class
    unfold Builtin.«object.__class__»
    unfold shownTypeOf
    repeat lk
    exact h
theorem xc_check {nv : Value} {M : Model} {Q : Unit → Shared → Prop} (Z : XcK K C) (X : K.In s.heap) (I : XObj x C s.heap) (h : Q () s) : wpAny M A (checkBuiltinCall "BaseException.__getattribute__" ⟨[.ref x, nv], []⟩) Q E s := by
  obtain ⟨hh, g, d, t, os⟩ := s
  have L0 := I.ty (M := M)
  have L1 := looks_mroIn (M := M) X Z.me
  have k1 : builtinKind "BaseException.__getattribute__" = some .slot := by decide +kernel
  have k2 : splitId "BaseException.__getattribute__" = some ("BaseException", "__getattribute__") := by decide +kernel
  have k3 := F.args_bexc_ga (.ref x) nv
  simp only [checkBuiltinCall, k1, k2]
  refine wpAny_bind ?_
  unfold isInstance
  repeat (first | with_reducible refine L0.at ?_ | with_reducible refine L1.at ?_ | wp_step)
  exact h
theorem xc_call {tk : Tok} {R : Result → Shared → Prop} (Z : XcK K C) (X : K.In s.heap) (I : XObj x C s.heap) (h : R (.ok (.ret (.ref C))) s) :
    codeAny (model prog w) A (.call (.builtin "BaseException.__getattribute__") ⟨[.ref x, .str "__class__" tk], []⟩) R s := by
  refine codeAny_call_builtin F.excAttr_ValueError.ga.plain F.entry_bexc_ga (xc_check Z X I ?_)
  obtain ⟨hh, g, d, t, os⟩ := s
  have L0 := I.ty (M := model prog w)
  have L3 := xc_find (M := model prog w) (x := x) Z X
  unfold Builtin.«object.__getattribute__»
  repeat (any_goals (first | assumption | with_reducible refine L0.at ?_ | with_reducible refine L3.at ?_ | wp_step))
  refine xc_get Z X I ?_
  repeat (any_goals (first | assumption | wp_step))
theorem xc_class {Q : Option Value → Shared → Prop} (Z : XcK K C) (X : K.In s.heap) (I : XObj x C s.heap) (h : Q (some (.ref C)) { s with toks := s.toks + 1 }) : wpAny (model prog w) A (getAttr? (.ref x) "__class__") Q E s := by
  obtain ⟨hh, g, d, t, os⟩ := s
  have L0 := I.ty (M := model prog w)
  have L1 := looks_findIn (M := model prog w) X Z.ga
  have L2 := looks_findIn (M := model prog w) X Z.gn
  have L3 := xc_find (M := model prog w) (x := x) Z X
  unfold getAttr? getAttrBy? getAttrBy
  refine wpAny_bind (wpAny_mkText (wpAny_bind (wpAny_attempt (wpAny_holding (wpAny_bind (L0.at (wpAny_bind (L1.at ?_))))))))
  have f3 := F.excAttr_ValueError.ga.bind (.ref x)
  have e0 : (false && onTheHeap (Value.builtin "BaseException.__getattribute__")) = false := rfl
  have e2 : (Value.builtin "BaseException.__getattribute__" == Value.builtin "object.__getattribute__") = false := by decide +kernel
  have e1 : (onTheHeap (Value.ref C) && Value.builtin "BaseException.__getattribute__" == Value.builtin "object.__getattribute__") = false := by rw [e2]; rfl
  repeat (any_goals (first | assumption | with_reducible refine L0.at ?_ | with_reducible refine L1.at ?_ | with_reducible refine L2.at ?_ | wp_step))
  refine xc_call Z X I ?_
  repeat (any_goals (first | assumption | wp_step))
end
theorem cls_at {K : Frag} {C : Addr} {h : Heap} (X : K.In h) (z : (clsIn K C).isSome = true) : ∃ (o : Obj) (cd : ClassData), h.get? C = some o ∧ o.data = .cls cd := by
  obtain ⟨cd, hc⟩ := Option.isSome_iff_exists.mp z
  unfold clsIn at hc
  split at hc
  · rename_i ho
    exact ⟨_, _, X _ _ ho, rfl⟩
  · cases hc
theorem kitx_exc {K : Frag} {e C : Addr} (Z : XcK K C) : KitX K (.ref e) (.ref C) (XObj e C) where
  ty := fun _ _ _ p => p.ty
  it := fun M h X _ => by
    obtain ⟨o, cd, ho, hd⟩ := cls_at X Z.ci
    intro A' Q' E' s' k q
    unfold isType loadHead
    refine wpAny_bind (wpAny_loadPart (k _ _ ho) ?_)
    rw [hd]
    exact wpAny_pure q
  ne := fun h tp dd its n sl X htp => by
    obtain ⟨o, cd, ho, hd⟩ := cls_at X Z.ci
    refine Bool.eq_false_iff.mpr fun q => ?_
    have e' : C = tp := Value.ref.inj (beq_iff_eq.mp q)
    subst e'
    rw [ho] at htp
    cases htp
    cases hd
  ca := fun X p k => xc_class Z X p k
end L2
set_option Elab.async false
set_option linter.all false
set_option maxRecDepth 100000
set_option maxHeartbeats 1000000
namespace L2
open PySem PySem.Spec PyProof.Rows
theorem ObjOk.got {P : Program} {w : World} {H : Hp} {h : Heap} {a : Addr} {o : HO} (x : ObjOk P w H h a o) : ∃ ob, h.get? a = some ob := by
  cases o with
  | lst xs => obtain ⟨_, _, _, _, e⟩ := x; exact ⟨_, e⟩
  | tup xs => obtain ⟨_, _, _, _, e, _⟩ := x; exact ⟨_, e⟩
  | dK kvs => obtain ⟨_, _, _, _, _, _, _, e, _⟩ := x; exact ⟨_, e⟩
  | dT kvs => obtain ⟨_, _, _, _, _, _, _, e, _⟩ := x; exact ⟨_, e⟩
  | set S n => obtain ⟨_, _, _, _, e, _⟩ := x; exact ⟨_, e⟩
  | ins C dx fs => obtain ⟨_, _, _, e, _⟩ := x; exact ⟨_, e⟩
  | own y => exact x
  | xd fs => obtain ⟨_, ⟨_, _, _, e, _⟩, _⟩ := x; exact ⟨_, e⟩
  | rng lo hi => obtain ⟨_, _, _, e⟩ := x; exact ⟨_, e⟩
  | frz ob u => exact ⟨_, x.1⟩
  | tbl ps => exact ⟨_, x⟩
  | met f y => exact ⟨_, x⟩
  | ext φ => exact x.2.1
theorem HOk.by {P : Program} {w : World} {H : Hp} {h h' B : Heap} (x : HOk P w H h) (hB : ∀ b u, H b = some u → ∃ o, B.get? b = some o) (k1 : ∀ b o, B.get? b = some o → h.get? b = some o) (k2 : ∀ b o, B.get? b = some o → h'.get? b = some o) : HOk P w H h' := fun a o e =>
  (x a o e).stay (fun b u hb q => by
    have ht : ∃ v, H b = some v := by
      rcases hb with rfl | hb
      · exact ⟨_, e⟩
      · exact ⟨_, hb⟩
    obtain ⟨v, hv⟩ := ht
    obtain ⟨ob, ho⟩ := hB b v hv
    have := k1 b ob ho
    rw [q] at this
    cases this
    exact k2 b _ ho) (fun _ q => q) fun _ _ q => q
def CXR (P : Program) (w : World) : CXT := fun outer H s E e s' => ∃ (ea C t : Addr) (H' : Hp) (B : Heap), e = .ref ea ∧ s'.os = s.os ∧ AllBare s'.gens ∧ Un (frs outer) [] H H' s.heap s'.heap ∧ HOk P w H' s'.heap ∧
  Heap.FlyingW B outer ea (.ref C) (.ref t) s'.heap ∧ (∀ b o, s.heap.get? b = some o → b ∉ frs outer → ∃ o', B.get? b = some o') ∧ (∀ b u, H' b = some u → ∃ o, B.get? b = some o) ∧ E (.ref C) none H'
theorem passX0 {P : Program} {w : World} {X : Cx} : Passes (CXR P w) X E0 := fun _ _ _ _ _ _ _ ⟨_, _, _, _, _, _, _, _, _, _, _, _, _, h⟩ => h.elim
section
variable {X : Cx} {pins : List (Addr × Obj)} {σ : St} {H : Hp} {s : Shared}
theorem Inv.notStk (I : Inv X pins σ H s) {b : Addr} {o : Obj} (e : X.s₀.heap.get? b = some o) (h : b ∉ X.fs) : b ∉ frs X.stack := fun z => by
  rcases List.mem_cons.mp (I.stkSub b z) with q | q
  · exact absurd q (Nat.ne_of_lt (Nat.lt_of_lt_of_le (Heap.lt_size e) I.ok.above))
  · exact h q
theorem Inv.stkSup (I : Inv X pins σ H s) {b : Addr} (h : b ∈ X.fs) : b ∈ frs X.stack := by
  rcases I.ok.stk with e | ⟨e, hf⟩
  · rw [e]; exact h
  · rw [e]; unfold frs; rw [List.filterMap_cons, hf]; exact List.mem_cons_of_mem _ h
theorem leaves_made {M : Model} {E2 : Value → Shared → Prop} {h' : Heap} {e C : Addr} {us : List Value} {E : XK} (I : Inv X pins σ H s) (hst : X.stack = X.env :: X.outer) (hf : X.env.frame = some X.env.locals) (hex : X.ex = [])
    (hm : Heap.MadeExcOf s.heap h' e (.ref C) us) (hE : E (.ref C) none H) : wpAny M X.A (leaving X.env (.ref e)) (fun _ s'' => CXR X.prog X.w X.outer X.H₀ X.s₀ E (.ref e) s'') E2 { s with heap := h' } := by
  have hfun := I.stack
  have hin : ∀ env ∈ X.stack, ∀ a, env.frame = some a → a ∈ frs X.stack := fun env he a ha => List.mem_filterMap.mpr ⟨env, he, ha⟩
  have hB1 : ∀ b o, s.heap.get? b = some o → b ∉ frs X.stack → (PySem.W.hideAll s.heap (frs X.stack)).get? b = some o := fun b o q n => PySem.W.hideAll_get _ q n
  have hB0 : ∀ b o, (PySem.W.hideAll s.heap (frs X.stack)).get? b = some o → s.heap.get? b = some o := fun b o q => PySem.W.of_hideAll _ q
  have hfun2 := PySem.W.funFrames_hide hfun hin
  have noex : ∀ b, b ∉ X.ex := fun b z => by rw [hex] at z; cases z
  rw [hst] at hfun2
  have trk : ∀ b u, H b = some u → ∃ o, (PySem.W.hideAll s.heap (frs X.stack)).get? b = some o := fun b u q => by
    obtain ⟨o, ho⟩ := (I.hok b u q).got
    exact ⟨o, hB1 b o ho fun z => by rw [I.stkFree b z] at q; cases q⟩
  have old : ∀ b o, X.s₀.heap.get? b = some o → b ∉ X.fs → ∃ o', (PySem.W.hideAll s.heap (frs X.stack)).get? b = some o' := fun b o q n => by
    obtain ⟨o', ho⟩ := I.base.there b o q (noex b)
    exact ⟨o', hB1 b o' ho (I.notStk q n)⟩
  refine wpAny_leaves_madeW (base := PySem.W.hideAll s.heap (frs X.stack)) (hst ▸ I.ok.frames) hf hB0 (hst ▸ hfun2) hm fun h2 t x1 x2 x3 x4 => ?_
  have fr : ∀ b o, s.heap.get? b = some o → b ∈ X.fs → ∃ sl, h2.get? b = some { o with slots := sl } := fun b o q hb => by
    obtain ⟨_, o', ho', hd⟩ := I.funs.mem hb
    rw [q] at ho'; cases ho'
    exact x4 b o (hm.keeps b o q) hd
  refine ⟨e, C, t, H, _, rfl, I.os, I.bare, ⟨fun b o q n hb _ => ?_, fun b o q n hb _ => ?_, fun b o q n _ => I.base.free b o q n (noex b), fun b o q _ => ?_, I.base.tups, I.base.frzs, I.base.tbls⟩, I.hok.by trk hB0 x1.1, x1, old, trk, hE⟩
  · exact x1.1 b o (hB1 b o (I.base.keep b o q n hb (noex b)) (I.notStk q hb))
  · obtain ⟨sl, e1⟩ := I.base.slot b o q n hb (noex b)
    obtain ⟨sl2, e2⟩ := fr b _ e1 hb
    exact ⟨sl2, e2⟩
  · by_cases hb : b ∈ X.fs
    · obtain ⟨o', e1⟩ := I.base.there b o q (noex b)
      obtain ⟨sl2, e2⟩ := fr b _ e1 hb
      exact ⟨_, e2⟩
    · obtain ⟨o', e1⟩ := old b o q hb
      exact ⟨_, x1.1 b o' e1⟩
theorem leaves_on {M : Model} {E2 : Value → Shared → Prop} {e : Value} {s' : Shared} {E : XK} (I : Inv X pins σ H s) (hst : X.stack = X.env :: X.outer) (hf : X.env.frame = some X.env.locals) (hex : X.ex = [])
    (h : CXR X.prog X.w X.stack H s E e s') : wpAny M X.A (leaving X.env e) (fun _ s'' => CXR X.prog X.w X.outer X.H₀ X.s₀ E e s'') E2 s' := by
  obtain ⟨ea, C, t, H', B, rfl, os, bare, un, hok, fl, b1, b2, hE⟩ := h
  have noex : ∀ b, b ∉ X.ex := fun b z => by rw [hex] at z; cases z
  have fl0 := fl
  rw [hst] at fl0
  refine wpAny_leaves_onW (hst ▸ I.ok.frames) hf fl0 fun h2 x1 x2 => ?_
  have nex : ∀ b : Addr, b ∉ ([] : List Addr) := fun b z => by cases z
  have old : ∀ b o, X.s₀.heap.get? b = some o → b ∉ X.fs → ∃ o', B.get? b = some o' := fun b o q n => by
    obtain ⟨o', ho⟩ := I.base.there b o q (noex b)
    exact b1 b o' ho (I.notStk q n)
  have fr : ∀ b o, s'.heap.get? b = some o → b ∈ X.fs → ∃ sl, h2.get? b = some { o with slots := sl } := fun b o q hb => by
    obtain ⟨_, o', ho', hd⟩ := fl.2.2.1.mem (I.stkSup hb)
    rw [q] at ho'; cases ho'
    exact x2 b o q hd
  refine ⟨ea, C, t, H', B, rfl, os.trans I.os, bare, ⟨fun b o q n hb _ => ?_, fun b o q n hb _ => ?_, fun b o q n _ => ?_, fun b o q _ => ?_, fun b xs q => un.tups b xs (I.base.tups b xs q), fun b o u q => un.frzs b o u (I.base.frzs b o u q), fun b ps q => ?_⟩, hok.by b2 fl.1 x1.1, x1, old, b2, hE⟩
  · have e1 := I.base.keep b o q n hb (noex b)
    have e2 := un.keep b o e1 (I.base.free b o q n (noex b)) (I.notStk q hb) (nex b)
    obtain ⟨o', e3⟩ := old b o q hb
    have e4 := fl.1 b o' e3
    rw [e2] at e4; cases e4
    exact x1.1 b _ e3
  · obtain ⟨sl, e1⟩ := I.base.slot b o q n hb (noex b)
    obtain ⟨sl1, e2⟩ := un.slot b _ e1 (I.base.free b o q n (noex b)) (I.stkSup hb) (nex b)
    obtain ⟨sl2, e3⟩ := fr b _ e2 hb
    exact ⟨sl2, e3⟩
  · obtain ⟨o', e1⟩ := I.base.there b o q (noex b)
    exact un.free b o' e1 (I.base.free b o q n (noex b)) (nex b)
  · by_cases hb : b ∈ X.fs
    · obtain ⟨o', e1⟩ := I.base.there b o q (noex b)
      obtain ⟨o2, e2⟩ := un.there b o' e1 (nex b)
      obtain ⟨sl2, e3⟩ := fr b _ e2 hb
      exact ⟨_, e3⟩
    · obtain ⟨o', e1⟩ := old b o q hb
      exact ⟨_, x1.1 b o' e1⟩
  · obtain ⟨m1, e1⟩ := I.base.tbls b ps q
    obtain ⟨m2, e2⟩ := un.tbls b _ e1
    exact ⟨m1 ++ m2, by rw [e2, Array.append_assoc]⟩
end
end L2
set_option Elab.async false
set_option linter.all false
set_option maxRecDepth 100000
set_option maxHeartbeats 1000000
namespace L2
open PySem PySem.Spec PyProof.Rows
abbrev bmV : List Value := [.type "ValueError", .type "Exception", .type "BaseException", .type "object"]
theorem exc_at {K : PySem.W.Frag} {h : Heap} {C : Addr} {bmB : List Value} {newId : String} (X : K.In h) (q : PySem.W.excIn K C bmB newId = true) :
    ∃ bm N nm qn bs hdct sn sub ab col dd k0 k1 k2 k3 k5 mN, h.get? C = some (excClassObj nm qn C N bs bm hdct sn sub ab col dd k0 k1 k2 k3 k5 newId) ∧ h.Ns N mN ∧ mN "__init__" = none ∧ OwnTail h bmB bm := by
  unfold PySem.W.excIn at q
  split at q
  case h_2 => cases q
  case h_1 dd cd sl ho =>
    split at q
    case h_2 => cases q
    case h_1 C' bm k0 k1 k2 k3 n k5 hm hs =>
      simp only [Bool.and_eq_true, beq_iff_eq, Bool.not_eq_true'] at q
      obtain ⟨⟨⟨⟨⟨z1, z2⟩, z3⟩, z4⟩, z5⟩, z6⟩ := q
      cases z1
      cases z2
      obtain ⟨nm, bs, mro, ns, qn, hd, sn, sub, ab, col, del⟩ := cd
      cases hm
      cases z3
      have es : sl = #[k0, k1, k2, k3, some (.builtin newId), k5] := by
        cases sl with
        | mk l => simp only at hs; rw [hs]
      cases es
      exact ⟨bm, ns, nm, qn, bs, hd, sn, sub, ab, col, dd, k0, k1, k2, k3, k5, _, X _ _ ho, Heap.Ns.of_isNs (PySem.W.isNs_of_in X z5), PySem.W.nsMap_none_of_in X z5 z6, PySem.W.tail_of_in X z4⟩
def Raises (X : Cx) (E : XK) : Prop := ∀ (pins : List (Addr × Obj)) (σ : St) (H : Hp) (s : Shared) (h' : Heap) (e C : Addr) (us : List Value), Inv X pins σ H s → Heap.MadeExcOf s.heap h' e (.ref C) us → E (.ref C) none H → X.xe (.ref e) { s with heap := h' }
def tRaise (t : TA) (C : Addr) (E : XK) : TS := fun _ σ H => t σ H fun vs H1 => vs.length ≤ sizeLine ∧ E (.ref C) none H1
section
variable {X : Cx}
theorem ps_raise {E : XK} {x : Str} {C : Addr} {e0 : Expr} {rest : List Expr} {t : TA} {np cpos pos : Pos} (hr : Raises X E) (hm : X.mg x = some (.ref C)) (q : PySem.W.excIn X.K C bmV "ValueError.__new__" = true) (ha : PA X (e0 :: rest) t) (hc : X.calm = true := by rfl) (hg : Gl X x := by rfl)
    (hdb : (x == ("__debug__" : Str)) = false := by decide) (he : starEach (e0 :: rest) X.env = (false, eval e0 X.env) :: starEach rest X.env := by rfl) (hpl : (backTo cpos (starEach rest X.env)).any (·.1) = false := by rfl) :
    PS X (.Raise (some (.Call (.Name x np) (e0 :: rest) [] cpos)) none pos) (tRaise t C E) := by
  intro pins s σ H D I h
  obtain ⟨tl, N, nm, qn, bs, hdct, sn, sub, ab, col, dd, k0, k1, k2, k3, k5, mN, hC, hN, hni, T⟩ := exc_at I.mod.kin q
  refine wpAny_Raise_call_subT (C := C) (nm := nm) (q := qn) (N := N) (bs := bs) (bm := tl) (hdct := hdct) (sn := sn) (sub := sub) (ab := ab) (col := col) (dd := dd) (k0 := k0) (k1 := k1) (k2 := k2) (k3 := k3) (k5 := k5)
    PySem.F.excBase_ValueError (mN := mN) (T.hasType PySem.F.excBase_ValueError.hasBase) (I.ok.hd hc) ?_ hni (ld_glob I hg hm ⟨rfl, ?_⟩ hdb)
  · rw [he]
    show (false || (backTo cpos (starEach rest X.env)).any (·.1)) = false
    rw [hpl]; rfl
  have h2 := ha cpos pins s σ H _ I h
  rw [he] at h2 ⊢
  refine Calls.evalArgs_plain (thn h2 fun us s2 hm0 => ?_)
  obtain ⟨vs, H1, I1, r1, q1, q2⟩ := hm0
  exact ⟨rfl, by rw [← r1.length]; exact q1, I1.bk _ _ hC, hN.keeps I1.bk, T.keeps I1.bk, fun h' e hm => hr pins σ H1 s2 h' e C us I1 hm q2⟩
end
section
variable {P : Program} {w : World} {K : PySem.W.Frag} {mg : Str → Option Value} {base : Heap}
abbrev cxR (P : Program) (w : World) (K : PySem.W.Frag) (mg : Str → Option Value) (base : Heap) (N : List Str) (qual : Str) (scope : Scope) (f : Addr) (cd : Value) (A : Around) (outer : List Env) (s : Shared) (H : Hp) (E : XK) : Cx := cxOf (CXR P w) P w K mg base N qual scope f cd A outer s H E
theorem raisesR {N : List Str} {qual : Str} {scope : Scope} {f : Addr} {cd : Value} {A : Around} {outer : List Env} {s : Shared} {H : Hp} {E : XK} : Raises (cxR P w K mg base N qual scope f cd A outer s H E) E :=
  fun pins σ H1 s1 h' e C us I hm hE => leaves_made (X := cxR P w K mg base N qual scope f cd A outer s H E) I rfl rfl rfl hm hE
theorem passR {N : List Str} {qual : Str} {scope : Scope} {f : Addr} {cd : Value} {A : Around} {outer : List Env} {s : Shared} {H : Hp} {E : XK} : Passes (CXR P w) (cxR P w K mg base N qual scope f cd A outer s H E) E :=
  fun pins σ H1 s1 e s' I h => leaves_on (X := cxR P w K mg base N qual scope f cd A outer s H E) I rfl rfl rfl h
structure DnX (P : Program) (w : World) (K : PySem.W.Frag) (mg : Str → Option Value) (base : Heap) (x : Str) (n : Nat) (ps : List Str) (sp : Sp) : Prop where
  ex : ∃ f fd, FnOk P w K mg base (CXR P w) n f fd ps sp ∧ mg x = some (.ref f) ∧ PySem.W.keepIn K (.ref f) = true ∧ Binds K fd ps []
theorem DefAt.okX {x : Str} {st : Stmt} {N ps : List Str} {k : Nat} {sp : Sp} (F : DefAt K mg x st ps) (S : FnScope N ps (defScope st)) (len : ∀ vs H Q E, sp vs H Q E → vs.length = ps.length)
    (hbody : ∀ (f : Addr) (cdv : Value) (A : Around) (outer : List Env) (s : Shared) (H : Hp) (vs : List V) (Q : VK) (E : XK), Room k (A.deeper (envOfC x (defScope st) s.heap.objs.size f cdv)) → sp vs H Q E →
      ∃ t, PSs (cxR P w K mg base N x (defScope st) f cdv A outer s H E) (defBody st) t ∧ t { nx := fun _ H' => Q .non H', rt := Q } (start N vs) H) : DnX P w K mg base x (k + 1) ps sp := by
  obtain ⟨f, fd, F, hm, hb⟩ := F.ex
  have kp := F.kp
  obtain ⟨oc, od, kV, doc, pm, an, cdv, ct, osl, rfl, lk, hcd⟩ := F.ex
  exact ⟨f, _, fn_of lk hcd S len fun A outer s H vs Q E hr hsp => hbody f cdv A outer s H vs Q E hr hsp, hm, kp, hb⟩
end
theorem pe_dnX {X : Cx} {E : XK} {x : Str} {n k : Nat} {ps : List Str} {sp : Sp} {e : Expr} {es : List Expr} {t : TA} {p pos : Pos} (hx : Passes (CXR X.prog X.w) X E) (D : DnX X.prog X.w X.K X.mg X.base x n ps sp) (hr : Room k X.A) (ha : PA X (e :: es) t) (hk : n ≤ k := by decide) (hg : Gl X x := by rfl)
    (hdb : (x == ("__debug__" : Str)) = false := by decide) (he : starEach (e :: es) X.env = (false, eval e X.env) :: starEach es X.env := by rfl) (hpl : (backTo pos (starEach es X.env)).any (·.1) = false := by rfl) :
    PE X (.Call (.Name x p) (e :: es) [] pos) (tCall sp [] E t) := by
  obtain ⟨f, fd, F, hm, kp, hb⟩ := D.ex
  exact pe_call F (hr.mono hk) hg hm kp hb .nil hx ha hdb he hpl
end L2
set_option Elab.async false
set_option linter.all false
set_option maxRecDepth 100000
set_option maxHeartbeats 1000000
namespace L2
open PySem PySem.Spec PyProof.Rows
def xcO (e C : Addr) : HO := .ext fun h => XObj e C h
theorem fly_obj {B h : Heap} {l : List Env} {e C : Addr} {a0 : Value} (f : Heap.FlyingW B l e (.ref C) a0 h) : XObj e C h := by
  obtain ⟨_, _, _, oe, ws, _, _, _, he, hc, hd, _⟩ := f
  exact ⟨oe, ws, he, hc.1, hd⟩
abbrev Cx.suite (X : Cx) (e : Addr) : Cx := { X with A := X.A.mark (some (.ref e)), calm := false, xe := fun _ _ => False }
section
variable {X : Cx} {pins : List (Addr × Obj)} {σ : St} {H : Hp} {s : Shared}
theorem Inv.suite (I : Inv X pins σ H s) (e : Addr) : Inv (X.suite e) pins σ H s :=
  ⟨⟨I.ok.mod, I.ok.kind, I.ok.glob, I.ok.blt, I.ok.above, I.ok.inj, I.ok.has, I.ok.cab, (fun z => by cases z), I.ok.frames, I.ok.stk, I.ok.exf, I.ok.bs, I.ok.bsz, I.ok.noex, I.ok.exfs, I.ok.funs, I.ok.frf⟩, I.os, I.bare, I.base, I.loc, I.cell, I.free, I.freeC, I.pin, I.hok, I.len⟩
theorem Inv.unsuite {e : Addr} (hh : X.A.handled = none) (I : Inv (X.suite e) pins σ H s) : Inv X pins σ H s :=
  ⟨⟨I.ok.mod, I.ok.kind, I.ok.glob, I.ok.blt, I.ok.above, I.ok.inj, I.ok.has, I.ok.cab, (fun _ => hh), I.ok.frames, I.ok.stk, I.ok.exf, I.ok.bs, I.ok.bsz, I.ok.noex, I.ok.exfs, I.ok.funs, I.ok.frf⟩, I.os, I.bare, I.base, I.loc, I.cell, I.free, I.freeC, I.pin, I.hok, I.len⟩
theorem Inv.forget {i : Nat} {n : Str} {h' : Heap} {v : Option Value} {m : Str → Option Value} {t' : Nat} (I : Inv X pins σ H s) (hN : X.N.Nodup) (hi : X.N[i]? = some n) (hn : s.heap.Ns X.env.locals m) (hn' : h'.Ns X.env.locals (fun x => if x = n then v else m x)) (hs : Heap.SameBut X.env.locals s.heap h') :
    Inv X pins (σ.set i none) H { s with heap := h', toks := t' } := by
  obtain ⟨oL, _, _, hoL, _⟩ := id hn
  have neL : ∀ b o, X.s₀.heap.get? b = some o → b ≠ X.env.locals := fun b o e => Nat.ne_of_lt (Nat.lt_of_lt_of_le (Heap.lt_size e) I.ok.above)
  have gen : ∀ b o, b ≠ X.env.locals → s.heap.get? b = some o → h'.get? b = some o := fun b o hb e => (hs.2 b hb).trans e
  refine ⟨I.ok, I.os, I.bare, ⟨fun b o e n0 hb hx => ?_, fun b o e n0 hb hx => ?_, I.base.free, fun b o e hx => ?_, I.base.tups, I.base.frzs, I.base.tbls⟩, ⟨_, hn', fun j y v' e1 e2 e3 => ?_⟩, fun y c e => ?_, I.free, I.freeC, fun p hp => ?_, fun b ob e => ?_, by simpa using I.len⟩
  · exact gen _ _ (neL b o e) (I.base.keep b o e n0 hb hx)
  · obtain ⟨sl, e1⟩ := I.base.slot b o e n0 hb hx
    exact ⟨sl, gen _ _ (neL b o e) e1⟩
  · obtain ⟨o', e1⟩ := I.base.there b o e hx
    exact ⟨o', gen _ _ (neL b o e) e1⟩
  · by_cases hj : j = i
    · subst hj
      rw [List.getElem?_set] at e2
      simp only [if_true] at e2
      split at e2 <;> cases e2
    · rw [List.getElem?_set_ne (Ne.symm hj)] at e2
      obtain ⟨m0, hm0, hl⟩ := I.loc
      obtain ⟨u', r', q⟩ := hl j y v' e1 e2 e3
      have hyn : y ≠ n := fun e => hj (nodup_ix hN e1 (e ▸ hi))
      refine ⟨u', r', ?_⟩
      rcases q with ⟨k, e⟩ | ⟨k, c, e, z⟩
      · refine .inl ⟨k, ?_⟩
        have : m0 y = m y := by
          obtain ⟨o1, es1, ep1, p1, p2, _, p3⟩ := hm0
          obtain ⟨o2, es2, ep2, q1, q2, _, q3⟩ := id hn
          rw [p1] at q1; cases q1
          rw [p2] at q2; cases q2
          rw [← p3 y, ← q3 y]
        simp [hyn, ← this, e]
      · exact .inr ⟨k, c, e, z.sameBut hs (I.cne y c e)⟩
  · obtain ⟨w', z⟩ := I.cell y c e
    exact ⟨w', z.sameBut hs (I.cne y c e)⟩
  · obtain ⟨e, n0, ne, nf, d⟩ := I.pin p hp
    exact ⟨gen _ _ ne e, n0, ne, nf, d⟩
  · refine (I.hok b ob e).stay (fun c w' hc q => gen c w' ?_ q) (fun _ q => q) fun _ _ q => q
    rintro rfl
    rcases hc with rfl | hc
    · rw [I.free] at e; cases e
    · rw [I.free] at hc; cases hc
theorem fly_inv {s' : Shared} {h5 B : Heap} {ea C t : Addr} {a5 : Value} {H' : Hp} (I : Inv X pins σ H s) (os : s'.os = s.os) (bare : AllBare s'.gens) (un : Un (frs X.stack) [] H H' s.heap s'.heap) (hok : HOk X.prog X.w H' s'.heap)
    (fl : Heap.FlyingW B X.stack ea (.ref C) (.ref t) s'.heap) (b1 : ∀ b o, s.heap.get? b = some o → b ∉ frs X.stack → ∃ o', B.get? b = some o') (b2 : ∀ b u, H' b = some u → ∃ o, B.get? b = some o)
    (fl5 : Heap.FlyingW B X.stack ea (.ref C) a5 h5) (u5 : s'.heap.UpToSlots h5) : H' ea = none ∧ Inv X pins σ (upd H' ea (xcO ea C)) { s' with heap := h5 } := by
  have nex : ∀ b : Addr, b ∉ ([] : List Addr) := fun b z => by cases z
  have hea : H' ea = none := by
    cases q : H' ea with
    | none => rfl
    | some u => obtain ⟨o, ho⟩ := b2 ea u q; rw [fl.2.1] at ho; cases ho
  have fr : ∀ b o, s'.heap.get? b = some o → b ∈ frs X.stack → ∃ sl, h5.get? b = some { o with slots := sl } := fun b o q hb => by
    obtain ⟨_, o', ho', hd⟩ := fl.2.2.1.mem hb
    rw [q] at ho'; cases ho'
    exact u5 b o q hd
  have nea : ∀ b o, s.heap.get? b = some o → b ≠ ea := fun b o q z => by
    subst z
    by_cases hb : b ∈ frs X.stack
    · obtain ⟨_, o', ho', hd⟩ := fl.2.2.1.mem hb
      obtain ⟨oe, ws, he, _, hdat⟩ := fly_obj fl
      rw [he] at ho'; cases ho'
      exact hd _ hdat
    · obtain ⟨o', ho⟩ := b1 b o q hb
      rw [fl.2.1] at ho; cases ho
  refine ⟨hea, I.call' (s' := { s' with heap := h5 }) (ch := []) os ⟨fun b o q n hb _ => ?_, fun b o q n hb _ => ?_, fun b o q n _ => ?_, fun b o q _ => ?_, fun b xs q => ?_, fun b o u q => ?_, fun b ps q => ?_⟩ ?_ bare fun b z => absurd z (nex b)⟩
  · have e2 := un.keep b o q n hb (nex b)
    obtain ⟨o', e3⟩ := b1 b o q hb
    have e4 := fl.1 b o' e3
    rw [e2] at e4; cases e4
    exact fl5.1 b _ e3
  · obtain ⟨sl1, e2⟩ := un.slot b _ q n hb (nex b)
    obtain ⟨sl2, e3⟩ := fr b _ e2 hb
    exact ⟨sl2, e3⟩
  · rw [upd_ne (nea b o q)]; exact un.free b o q n (nex b)
  · by_cases hb : b ∈ frs X.stack
    · obtain ⟨o2, e2⟩ := un.there b o q (nex b)
      obtain ⟨sl2, e3⟩ := fr b _ e2 hb
      exact ⟨_, e3⟩
    · obtain ⟨o', e1⟩ := b1 b o q hb
      exact ⟨_, fl5.1 b o' e1⟩
  · have := un.tups b xs q
    rw [upd_ne (ne_of_none this hea)]; exact this
  · have := un.frzs b o u q
    rw [upd_ne (ne_of_none this hea)]; exact this
  · obtain ⟨m2, e2⟩ := un.tbls b _ q
    exact ⟨m2, by rw [upd_ne (ne_of_none e2 hea)]; exact e2⟩
  · have ok5 := hok.by b2 fl.1 fl5.1
    intro b u e
    by_cases hb : b = ea
    · subst hb
      rw [upd_same] at e; cases e
      have x := fly_obj fl5
      obtain ⟨oe, ws, he, r⟩ := id x
      exact ⟨x, ⟨oe, he⟩, fun h1 h2 p k => p.keeps k⟩
    · rw [upd_ne hb] at e
      exact (ok5 b u e).stay (fun _ _ _ q => q) (fun c q => by rw [upd_ne (ne_of_none q hea)]; exact q) fun c xs q => by rw [upd_ne (ne_of_none q hea)]; exact q
theorem caught {s' : Shared} {e : Value} {E : XK} {D : Ends} {i : Nat} {n g : Str} {G : Addr} {b0 : Stmt} {suite : List Stmt} {hpos np : Pos} {th : TS} (I : Inv X pins σ H s) (hst : X.stack = X.env :: X.outer) (hf : X.env.frame = some X.env.locals) (hc : X.calm = true)
    (hN : X.N.Nodup) (hi : X.N[i]? = some n) (hl : X.env.scope.names.lookup n = some .local) (hg : Gl X g) (hm : X.mg g = some (.ref G)) (hs : ∀ ea, PSs (X.suite ea) (b0 :: suite) th) (hdb : (g == ("__debug__" : Str)) = false)
    (hx : CXR X.prog X.w X.stack H s E e s')
    (hE : ∀ C H', E (.ref C) none H' → PySem.W.exmOne X.K (.ref C) (.ref G) = some true ∧ ∀ ea, H' ea = none → th { D with nx := fun σ' H2 => D.nx (σ'.set i none) H2, bk := fun σ' H2 => D.bk (σ'.set i none) H2, ct := fun σ' H2 => D.ct (σ'.set i none) H2 } (σ.set i (some (.ref ea))) (upd H' ea (xcO ea C))) :
    wpAny (model X.prog X.w) X.A (noteFrame e X.env) (fun _ s2 => wpAny (model X.prog X.w) X.A (setFlight e none) (fun _ s3 => wpAny (model X.prog X.w) X.A (handleBy e X.env [.ExceptHandler (some (.Name g np)) (some n) (b0 :: suite) hpos]) (SP X pins D) X.xe s3) X.xe s2) X.xe s' := by
  obtain ⟨ea, C, t, H', B, rfl, os, bare, un, hok, fl, b1, b2, hw⟩ := hx
  obtain ⟨hm1, hth⟩ := hE C H' hw
  have fl0 := fl
  rw [hst] at fl0
  have hh := I.ok.hd hc
  have hk := I.ok.kind
  refine wpAny_looks_onW (hst ▸ I.ok.frames) hf fl0 fun h4 held u4 => ?_
  refine wpAny_landsW held fun h5 fl5 u5 => ?_
  rw [← hst] at fl5
  obtain ⟨hea, I5⟩ := fly_inv I os bare un hok fl b1 b2 fl5 (u4.trans u5)
  refine wpAny_handleBy_cons (codeAny_handlers_test (ld_glob (X := X.suite ea) (I5.suite ea) hg hm ?_ hdb)) (by intro q; cases q)
  refine (PySem.W.exm_one I5.kIn (fly_obj fl5).ty hm1).here ?_
  refine codeAny_handlers_suite_as ?_
  refine lands_againW fl5 fun h6 fl6 u6 => ?_
  obtain ⟨_, I6⟩ := fly_inv I os bare un hok fl b1 b2 fl6 ((u4.trans u5).trans u6)
  refine store_ok (X := X) I6 hN hi (.inl hl) (v := .ref ea) (u := .ref ea) rfl (fun s7 I7 => ?_) (.inr hl)
  refine wpAny_mono (hs ea pins s7 _ _ _ (I7.suite ea) (hth ea hea)) (fun f s8 q8 => ?_) fun _ _ z => False.elim z
  have key : ∀ {σ' : St} {H2 : Hp} {R : Prop}, Inv (X.suite ea) pins σ' H2 s8 → (∀ s9, Inv X pins (σ'.set i none) H2 s9 → SP X pins D f s9) →
      wpAny (model X.prog X.w) X.A (do bindName X.env n .none; unbindBehindTheSuite X.env n hpos) (fun _ s9 => SP X pins D f s9) X.xe s8 := fun {σ' H2 R} J k => by
    have J' := J.unsuite hh
    obtain ⟨m, hn, _⟩ := J'.loc
    refine wpAny_nameGoes_keeps hl hn (by rw [hk]; rfl) fun h' v hn' hsb => k _ (J'.forget hN hi hn hn' hsb)
  cases f with
  | next => obtain ⟨σ', H2, J, q⟩ := q8; exact key (R := True) J fun s9 I9 => ⟨_, H2, I9, q⟩
  | brk => obtain ⟨σ', H2, J, q⟩ := q8; exact key (R := True) J fun s9 I9 => ⟨_, H2, I9, q⟩
  | cont => obtain ⟨σ', H2, J, q⟩ := q8; exact key (R := True) J fun s9 I9 => ⟨_, H2, I9, q⟩
  | ret u => obtain ⟨v, σ', H2, J, r, q⟩ := q8; exact key (R := True) J fun s9 I9 => ⟨v, _, H2, I9, r, q⟩
end
end L2
set_option Elab.async false
set_option linter.all false
set_option maxRecDepth 100000
set_option maxHeartbeats 1000000
namespace L2
open PySem PySem.Spec PyProof.Rows
section
variable {X : Cx} {CX : CXT} {k : Nat} {f : Addr} {fd : FuncData} {ps : List Str} {sp : Sp} {E : XK} {x : Str} {p pos : Pos} {e : Expr} {es : List Expr} {t : TA} {pins : List (Addr × Obj)} {σ : St} {H : Hp} {s : Shared} {Q : VK} {EE : Value → Shared → Prop}
theorem run_fnT {us : List Value} {vs : List V} (F : FnOk X.prog X.w X.K X.mg X.base CX k f fd ps sp) (hr : Room k X.A) (hb : Binds X.K fd ps []) (I : Inv X pins σ H s) (hx : ∀ e s', CX X.stack H s E e s' → EE e s') (r : Vals vs us) (h : sp vs H Q E) :
    wpAny (model X.prog X.w) X.A (call (.ref f) us) (EP X pins σ Q) EE s := by
  have hl : us.length = ps.length := by rw [← r.length]; exact F.len _ _ _ _ h
  have hb2 := hb s us I.kIn (by simpa using hl)
  rw [List.append_nil] at hb2
  refine wpAny_call (codeAny_mono (F.run X.A X.stack s H ⟨us, []⟩ us vs Q E hr I.env0 hb2 r h) fun r s' hq => ?_)
  cases r with
  | error e => exact hx e s' hq
  | ok fl =>
    cases fl with
    | ret u => exact I.after hq
    | next => cases hq
    | brk => cases hq
    | cont => cases hq
theorem call_T (F : FnOk X.prog X.w X.K X.mg X.base CX k f fd ps sp) (hr : Room k X.A) (hg : Gl X x) (hm : X.mg x = some (.ref f)) (hk : PySem.W.keepIn X.K (.ref f) = true) (hb : Binds X.K fd ps []) (ha : PA X.nox (e :: es) t) (hdb : (x == ("__debug__" : Str)) = false)
    (he : starEach (e :: es) X.env = (false, eval e X.env) :: starEach es X.env) (hpl : (backTo pos (starEach es X.env)).any (·.1) = false) (I : Inv X pins σ H s) (h : t σ H fun vs H1 => sp vs H1 Q E) (hx : ∀ H1 s1 e s', Inv X pins σ H1 s1 → CX X.stack H1 s1 E e s' → EE e s') :
    wpAny (model X.prog X.w) X.A (eval (.Call (.Name x p) (e :: es) [] pos) X.env) (EP X pins σ Q) EE s := by
  refine wpAny_Call_Name_kw (ld_glob I hg hm ?_ hdb)
  refine PySem.W.callWith_K (h₀ := X.base) I.ok.mod.kin hk (wpAny_mono (ha pos pins s σ H _ (I.wish _) h) (fun us s1 hm0 => ?_) fun _ _ z => False.elim z) he hpl
  obtain ⟨vs, H1, I1, r, q⟩ := hm0
  have J : Inv X pins σ H1 s1 := I1.unwish
  exact ⟨J.kIn, run_fnT F hr hb J (fun e s' z => hx H1 s1 e s' J z) r q⟩
end
def exTry (K : PySem.W.Frag) (G : Addr) (th : TS) (i : Nat) (D : Ends) (σ : St) : XK := fun c _ H' => ∃ C, c = .ref C ∧ PySem.W.exmOne K (.ref C) (.ref G) = some true ∧ ∀ ea, H' ea = none →
  th { D with nx := fun σ' H2 => D.nx (σ'.set i none) H2, bk := fun σ' H2 => D.bk (σ'.set i none) H2, ct := fun σ' H2 => D.ct (σ'.set i none) H2 } (σ.set i (some (.ref ea))) (upd H' ea (xcO ea C))
def tTryE (K : PySem.W.Frag) (G : Addr) (sp : Sp) (t : TA) (th : TS) (i : Nat) : TS := fun D σ H => t σ H fun vs H1 => sp vs H1 (fun _ H2 => D.nx σ H2) (exTry K G th i D σ)
section
variable {X : Cx} {x y g n : Str} {i j m k : Nat} {ps : List Str} {sp : Sp} {p py pos epos np hpos tpos : Pos} {e : Expr} {es : List Expr} {t : TA} {th : TS} {G : Addr} {b0 : Stmt} {suite : List Stmt}
theorem ps_tryE (D : DnX X.prog X.w X.K X.mg X.base x m ps sp) (hr : Room k X.A) (ha : PA X.nox (e :: es) t) (hmg : X.mg g = some (.ref G)) (hs : ∀ ea, PSs (X.suite ea) (b0 :: suite) th) (hN : X.N.Nodup) (hi : X.N[i]? = some n) (hl : X.env.scope.names.lookup n = some .local)
    (hk : m ≤ k := by decide) (hc : X.calm = true := by rfl) (hst : X.stack = X.env :: X.outer := by rfl) (hf : X.env.frame = some X.env.locals := by rfl) (hg : Gl X x := by rfl) (hgg : Gl X g := by rfl)
    (hdb : (x == ("__debug__" : Str)) = false := by decide) (hdg : (g == ("__debug__" : Str)) = false := by decide) (he : starEach (e :: es) X.env = (false, eval e X.env) :: starEach es X.env := by rfl) (hpl : (backTo pos (starEach es X.env)).any (·.1) = false := by rfl)
    (hsw : swapsWith (.Call (.Name x p) (e :: es) [] pos) none epos.line X.env = pure false := by rfl) :
    PS X (.Try [.Expr (.Call (.Name x p) (e :: es) [] pos) epos] [.ExceptHandler (some (.Name g np)) (some n) (b0 :: suite) hpos] [] [] tpos) (tTryE X.K G sp t th i) := by
  intro pins s σ H D0 I h
  obtain ⟨f, fd, F, hm, kp, hb⟩ := D.ex
  refine wpAny_Try_except (wpAny_execs_cons ?_)
  refine wpAny_Expr_any (thn (call_T F (hr.mono hk) hg hm kp hb ha hdb he hpl I h (fun H1 s1 e s' J z => ?_)) fun v s1 ⟨u, H1, I1, r1, q1⟩ => ?_) I.quiet hsw
  · exact caught (D := D0) J hst hf hc hN hi hl hgg hmg hs hdg z fun C H' ⟨C', e1, q1, q2⟩ => by cases e1; exact ⟨q1, q2⟩
  · exact wpAny_execs_nil (wpAny_execs_nil ⟨σ, H1, I1, q1⟩)
end
end L2
set_option Elab.async false
set_option linter.all false
set_option maxRecDepth 100000
set_option maxHeartbeats 1000000
namespace L2
open PySem PySem.Spec PyProof.Rows
def clK (K : PySem.W.Frag) (x : Str) : Addr := match PySem.W.nsIn K mainGlobals x with
  | some (some (.ref C)) => C
  | _ => 0
def xcB (K : PySem.W.Frag) (C : Addr) : Bool :=
  PySem.W.findIn K (.ref C) "__getattribute__" == some (some (.builtin "BaseException.__getattribute__")) && PySem.W.findIn K (.ref C) "__getattr__" == some none &&
  PySem.W.findIn K (.ref C) "__class__" == some (some (.builtin "object.__class__")) && PySem.W.specialIn K (.builtin "object.__class__") "__get__" == some (some (.builtin "getset_descriptor.__get__")) &&
  PySem.W.takesIn K (.builtin "object.__class__") == some true && PySem.W.mroIn K C (.type "object") == some true && PySem.W.mroIn K C (.type "BaseException") == some true && (PySem.W.clsIn K C).isSome
def xcFacts (K : PySem.W.Frag) (top : Str) (rs ns : List Str) : Bool :=
  (PySem.W.nsIn K mainGlobals top == some (some (.ref (clK K top)))) &&
  (ns.all fun y => PySem.W.nsIn K mainGlobals y == some (some (.ref (clK K y)))) &&
  rs.all fun x => (PySem.W.nsIn K mainGlobals x == some (some (.ref (clK K x)))) && xcB K (clK K x) && PySem.W.excIn K (clK K x) bmV "ValueError.__new__" &&
    (PySem.W.exmOne K (.ref (clK K x)) (.ref (clK K top)) == some true) && (PySem.W.kitOne K (.ref (clK K x)) (.type "ValueError") == some true) &&
    ns.all fun y => PySem.W.kitOne K (.ref (clK K x)) (.ref (clK K y)) == some (decide (x = y))
structure XT (K : PySem.W.Frag) (mg : Str → Option Value) (top : Str) (rs ns : List Str) : Prop where
  m : ∀ x, (x = top ∨ x ∈ rs ∨ x ∈ ns) → mg x = some (.ref (clK K x))
  exc : ∀ x ∈ rs, PySem.W.excIn K (clK K x) bmV "ValueError.__new__" = true
  k : ∀ x ∈ rs, XcK K (clK K x)
  hit : ∀ x ∈ rs, PySem.W.exmOne K (.ref (clK K x)) (.ref (clK K top)) = some true
  val : ∀ x ∈ rs, PySem.W.kitOne K (.ref (clK K x)) (.type "ValueError") = some true
  one : ∀ x ∈ rs, ∀ y ∈ ns, PySem.W.kitOne K (.ref (clK K x)) (.ref (clK K y)) = some (decide (x = y))
theorem xt_of {K : PySem.W.Frag} {h : Heap} {mg : Str → Option Value} {top : Str} {rs ns : List Str} (X : K.In h) (G : h.Ns mainGlobals mg) (e : xcFacts K top rs ns = true) : XT K mg top rs ns := by
  unfold xcFacts at e
  simp only [Bool.and_eq_true, List.all_eq_true, beq_iff_eq] at e
  obtain ⟨⟨e1, e2⟩, e3⟩ := e
  refine ⟨fun x hx => ?_, fun x hx => (e3 x hx).1.1.1.2, fun x hx => ?_, fun x hx => (e3 x hx).1.1.2, fun x hx => (e3 x hx).1.2, fun x hx y hy => (e3 x hx).2 y hy⟩
  · rcases hx with rfl | hx | hx
    · exact PySem.W.mg_of X G e1
    · exact PySem.W.mg_of X G (e3 x hx).1.1.1.1.1
    · exact PySem.W.mg_of X G (e2 x hx)
  · have z := (e3 x hx).1.1.1.1.2
    unfold xcB at z
    simp only [Bool.and_eq_true, beq_iff_eq] at z
    obtain ⟨⟨⟨⟨⟨⟨⟨z1, z2⟩, z3⟩, z4⟩, z5⟩, z6⟩, z7⟩, z8⟩ := z
    exact ⟨z1, z2, z3, z4, z5, z6, z7, z8⟩
theorem boot_VE : bootBuiltins "ValueError" = some (.type "ValueError") := by decide +kernel
section
variable {X : Cx}
theorem call_isiE : CallR X (.builtin "isinstance") (fun xs H Q => ∃ e C D b, xs = [.ref e, .ref D] ∧ H e = some (xcO e C) ∧ XcK X.K C ∧ PySem.W.kitOne X.K (.ref C) (.ref D) = some b ∧ Q (.bl b) H) := by
  intro pins s σ H xs us Q I r h
  obtain ⟨e, C, D, b, rfl, he, hk, hb, q⟩ := h
  obtain ⟨u, c, rfl, ru, rc⟩ := r.two
  cases (show u = Value.ref e from ru)
  cases (show c = Value.ref D from rc)
  exact PySem.W.kia_one (kitx_exc hk) I.kIn (I.hok e _ he).1 hb (by intro z; cases z) fun tk => ⟨.bl b, H, I.tok _, rfl, q⟩
theorem call_isiV {T : String} : CallR X (.builtin "isinstance") (fun xs H Q => ∃ e C b, xs = [.ref e, .ty T] ∧ H e = some (xcO e C) ∧ XcK X.K C ∧ PySem.W.kitOne X.K (.ref C) (.type T) = some b ∧ Q (.bl b) H) := by
  intro pins s σ H xs us Q I r h
  obtain ⟨e, C, b, rfl, he, hk, hb, q⟩ := h
  obtain ⟨u, c, rfl, ru, rc⟩ := r.two
  cases (show u = Value.ref e from ru)
  cases (show c = Value.type T from rc)
  exact PySem.W.kia_one (kitx_exc hk) I.kIn (I.hok e _ he).1 hb (by intro z; cases z) fun tk => ⟨.bl b, H, I.tok _, rfl, q⟩
end
end L2
set_option Elab.async false
set_option linter.all false
set_option maxRecDepth 100000
set_option maxHeartbeats 1000000
namespace L2
open PySem PySem.Spec PyProof.Rows
section
variable {X : Cx}
end
end L2
set_option Elab.async false
set_option linter.all false
set_option maxRecDepth 100000
set_option maxHeartbeats 1000000
namespace L2
open PySem PySem.Spec PyProof.Rows
end L2
set_option Elab.async false
set_option linter.all false
set_option maxRecDepth 100000
set_option maxHeartbeats 1000000
namespace L2
open PySem PySem.Spec PyProof.Rows
section
variable {X : Cx}
end
end L2
set_option Elab.async false
set_option linter.all false
set_option maxRecDepth 100000
set_option maxHeartbeats 1000000
namespace L2
open PySem PySem.Spec PyProof.Rows
section
variable {X : Cx}
end
end L2
set_option Elab.async false
set_option linter.all false
set_option maxRecDepth 100000
set_option maxHeartbeats 1000000
namespace L2
open PySem PySem.Spec PyProof.Rows
section
variable {X : Cx} {pins : List (Addr × Obj)} {σ : St} {H : Hp} {s : Shared}
end
end L2
set_option Elab.async false
set_option linter.all false
set_option maxRecDepth 100000
set_option maxHeartbeats 1000000
namespace L2
open PySem PySem.Spec PyProof.Rows
end L2
set_option Elab.async false
set_option linter.all false
namespace L2
open PySem PyProof.Rows
section
variable {prog : Program} {w : World} {A : Around} {E : Value → Shared → Prop} {s : Shared}
end
end L2
set_option Elab.async false
set_option linter.all false
namespace L2
open PySem PyProof.Rows
section
variable {prog : Program} {w : World} {A : Around} {E : Value → Shared → Prop} {s : Shared}
end
end L2
set_option Elab.async false
set_option linter.all false
namespace L2
open PySem PyProof.Rows
section
variable {prog : Program} {w : World} {A : Around} {E : Value → Shared → Prop} {s : Shared}
end
end L2
set_option Elab.async false
set_option linter.all false
namespace L2
open PySem PyProof.Rows
section
variable {a₀ : Array Keyed} {pd : Array (Nat × Nat × Nat)} {st : SortSt}
variable {prog : Program} {w : World} {A : Around} {E : Value → Shared → Prop} {s : Shared}
end
end L2
set_option Elab.async false
set_option linter.all false
namespace L2
open PySem PyProof.Rows
section
variable {prog : Program} {w : World} {A : Around} {E : Value → Shared → Prop} {s : Shared} {a₀ : Array Keyed} {pd : Array (Nat × Nat × Nat)} {st : SortSt}
end
end L2
set_option Elab.async false
set_option linter.all false
namespace L2
open PySem PyProof.Rows
section
variable {prog : Program} {w : World} {A : Around} {E : Value → Shared → Prop} {s : Shared} {a₀ : Array Keyed} {st : SortSt}
end
end L2
set_option Elab.async false
set_option linter.all false
set_option maxRecDepth 100000
set_option maxHeartbeats 1000000
namespace L2
open PySem PySem.Spec PyProof.Rows
section
variable {prog : Program} {w : World} {A : Around} {E : Value → Shared → Prop} {s : Shared}
end
section
variable {X : Cx}
end
end L2
set_option Elab.async false
set_option linter.all false
set_option maxRecDepth 100000
set_option maxHeartbeats 1000000
namespace L2
open PySem PySem.Spec PyProof.Rows
section
variable {P : Program} {w : World} {K : PySem.W.Frag} {mg : Str → Option Value} {base : Heap}
end
end L2
set_option linter.all false
namespace Law
open PySem L2
end Law
set_option Elab.async false
set_option linter.all false
set_option maxRecDepth 100000
set_option maxHeartbeats 1000000
namespace L2
open PySem PySem.Spec PyProof.Rows
end L2
set_option Elab.async false
set_option linter.all false
set_option maxRecDepth 100000
set_option maxHeartbeats 1000000
namespace L2
open PySem PySem.Spec PyProof.Rows
theorem beqd {α : Type} [DecidableEq α] (x y : α) : (x == y) = decide (x = y) := by rw [Bool.eq_iff_iff]; simp
structure EqD {α : Type} [DecidableEq α] (n : Nat) (R : Rel α) : Prop where
  go : ∀ (X : Cx) (pins : List (Addr × Obj)) (σ : St) (H : Hp) (s : Shared) (A : Around) (x y : α) (v w : V) (u1 u2 : Value),
    Inv X pins σ H s → A.units + n < cLine → R H x v → R H y w → RelV v u1 → RelV w u2 → SeqAt.EqAt A s u1 u2 (decide (x = y))
  inj : ∀ (H : Hp) (x y : α) (v : V), R H x v → R H y v → x = y
structure RcD {α : Type} [DecidableEq α] (n : Nat) (R : Rel α) : Prop where
  go : ∀ (X : Cx) (pins : List (Addr × Obj)) (σ : St) (H : Hp) (s : Shared) (A : Around) (x y : α) (v w : V) (u1 u2 : Value),
    Inv X pins σ H s → A.units + n < cLine → R H x v → R H y w → RelV v u1 → RelV w u2 → SeqAt.RcAt A s u1 u2 (decide (x = y)) ∧ SeqAt.RcNeAt A s u1 u2 (!decide (x = y))
  inj : ∀ (H : Hp) (x y : α) (v : V), R H x v → R H y v → x = y
theorem EqD.up {α : Type} [DecidableEq α] {m n : Nat} {R : Rel α} (h : EqD m R) (hm : m ≤ n) : EqD n R := ⟨fun X pins σ H s A x y v w u1 u2 I hu => h.go X pins σ H s A x y v w u1 u2 I (by omega), h.inj⟩
theorem eqd_int : EqD 0 rInt := by
  refine ⟨fun X pins σ H s A x y v w u1 u2 I hu h1 h2 r1 r2 => ?_, fun H x y v h1 h2 => ?_⟩
  · have e1 : v = .int x := h1
    have e2 : w = .int y := h2
    subst e1; subst e2
    have := eqAt_V (A := A) (s := s) r1 r2 rfl rfl
    simpa [eqV, beqd] using this
  · have e1 : v = .int x := h1
    have e2 : v = .int y := h2
    rw [e1] at e2; injection e2
theorem paired_inj {α : Type} {R : Rel α} {H : Hp} (hj : ∀ (x y : α) (v : V), R H x v → R H y v → x = y) : ∀ {xs ys : List α} {vs : List V}, Paired (R H) xs vs → Paired (R H) ys vs → xs = ys
  | _, _, _, .nil, .nil => rfl
  | _, _, _, .cons r t, .cons r' t' => by rw [hj _ _ _ r r', paired_inj hj t t']
theorem vals_twoD {α : Type} {R : Rel α} {H : Hp} {xs ys : List α} {vs ws : List V} {us1 us2 : List Value} (p1 : Paired (R H) xs vs) (p2 : Paired (R H) ys ws) (r1 : Vals vs us1) (r2 : Vals ws us2) :
    us1.length = xs.length ∧ us2.length = ys.length ∧ ∀ (j : Nat) (a b : Value), us1[j]? = some a → us2[j]? = some b → ∃ x y v w, xs[j]? = some x ∧ ys[j]? = some y ∧ R H x v ∧ R H y w ∧ RelV v a ∧ RelV w b := by
  have l1 := p1.length
  have l2 := p2.length
  have l3 := r1.length
  have l4 := r2.length
  refine ⟨by omega, by (clear l1 l3; omega), fun j a b ha hb => ?_⟩
  have hja := (List.getElem?_eq_some_iff.mp ha).1
  have hjb := (List.getElem?_eq_some_iff.mp hb).1
  have e1 : xs[j]? = some (xs[j]'(by (clear l2 l4 hjb; omega))) := by simp
  have e2 : ys[j]? = some (ys[j]'(by omega)) := by simp
  obtain ⟨v, hv, rv⟩ := Paired.at p1 e1
  obtain ⟨w, hw, rw'⟩ := Paired.at p2 e2
  obtain ⟨a', ha', ra⟩ := r1.get hv
  obtain ⟨b', hb', rb⟩ := r2.get hw
  rw [ha] at ha'; cases ha'
  rw [hb] at hb'; cases hb'
  exact ⟨_, _, v, w, e1, e2, rv, rw', ra, rb⟩
theorem all_at {α : Type} [DecidableEq α] : ∀ (xs ys : List α), xs.length = ys.length → ((List.range xs.length).all fun j => decide (xs[j]? = ys[j]?)) = decide (xs = ys) := fun xs ys hl => by
  rw [Bool.eq_iff_iff, List.all_eq_true, decide_eq_true_eq]
  constructor
  · intro h
    apply List.ext_getElem?
    intro j
    by_cases c : j < xs.length
    · exact of_decide_eq_true (h j (List.mem_range.mpr c))
    · rw [List.getElem?_eq_none (by (clear hl h; omega)), List.getElem?_eq_none (by omega)]
  · rintro rfl j _; simp
theorem rcd_lst {α : Type} [DecidableEq α] {n : Nat} {R : Rel α} (h : EqD n R) : RcD (n + 1) (rLst R) := by
  refine ⟨fun X pins σ H s A xs ys v w u1 u2 I hu h1 h2 r1 r2 => ?_, fun H xs ys v h1 h2 => ?_⟩
  · obtain ⟨a, vs, e1, ha, p1⟩ := h1
    obtain ⟨b, ws, e2, hb, p2⟩ := h2
    subst e1; subst e2
    cases r1; cases r2
    obtain ⟨its, n1, rv1, o1, z1⟩ := I.lst ha
    obtain ⟨its2, n2, rv2, o2, z2⟩ := I.lst hb
    obtain ⟨el1, el2, f⟩ := vals_twoD p1 p2 rv1 rv2
    have hl1 : s.heap.IsList a its.toArray := ⟨_, o1, rfl, n1, rfl⟩
    have hl2 : s.heap.IsList b its2.toArray := ⟨_, o2, rfl, n2, rfl⟩
    by_cases hl : xs.length = ys.length
    · have he : ∀ j (h1 : j < its.toArray.size) (h2 : j < its2.toArray.size), SeqAt.EqAt A.in1 s its.toArray[j] its2.toArray[j] ((fun j => decide (xs[j]? = ys[j]?)) j) := fun j h1 h2 => by
        obtain ⟨x, y, v, w, e1, e2, q1, q2, q3, q4⟩ := f j (its.toArray[j]) (its2.toArray[j]) (by simp) (by simp)
        have := h.go X pins σ H s A.in1 x y v w _ _ I (by show A.units + 1 + n < cLine; omega) q1 q2 q3 q4
        show SeqAt.EqAt A.in1 s _ _ (decide (xs[j]? = ys[j]?))
        rw [e1, e2]
        have e9 : decide (some x = some y) = decide (x = y) := by simp
        rw [e9]; exact this
      have A1 := SeqAt.RcAt.lists hl1 hl2 (by simp; (clear hu z1 z2 f he; omega)) (by omega) he
      have A2 := SeqAt.RcNeAt.lists hl1 hl2 (by simp; (clear hu z1 z2 f he; omega)) (by omega) he
      have es : its.toArray.size = xs.length := by simp; omega
      rw [es, all_at xs ys hl] at A1 A2
      exact ⟨A1, A2⟩
    · have hne : (its.toArray.size != its2.toArray.size) = true := by
        simp only [List.size_toArray, bne_iff_ne]; (clear hu z1 z2 f; omega)
      have e9 : decide (xs = ys) = false := decide_eq_false fun z => hl (by rw [z])
      rw [e9]
      exact ⟨SeqAt.RcAt.lists_lengths hl1 hl2 hne (by omega), SeqAt.RcNeAt.lists_lengths hl1 hl2 hne (by omega)⟩
  · obtain ⟨a, vs, e1, ha, p1⟩ := h1
    obtain ⟨b, ws, e2, hb, p2⟩ := h2
    rw [e1] at e2; cases e2
    rw [ha] at hb; cases hb
    exact paired_inj (h.inj H) p1 p2
theorem eqd_of {α : Type} [DecidableEq α] {n : Nat} {R : Rel α} (h : RcD n R) (href : ∀ {H : Hp} {x : α} {v : V}, R H x v → ∃ a, v = .ref a) : EqD n R := by
  refine ⟨fun X pins σ H s A x y v w u1 u2 I hu h1 h2 r1 r2 => ?_, h.inj⟩
  obtain ⟨a, rfl⟩ := href h1
  obtain ⟨b, rfl⟩ := href h2
  have q := (h.go X pins σ H s A x y _ _ u1 u2 I hu h1 h2 r1 r2).1
  cases r1; cases r2
  by_cases e : a = b
  · subst e
    rw [decide_eq_true (h.inj H x y _ h1 h2)]
    exact SeqAt.EqAt.same _
  · exact SeqAt.EqAt.of_refs e q
theorem eqd_lst {α : Type} [DecidableEq α] {n : Nat} {R : Rel α} (h : EqD n R) : EqD (n + 1) (rLst R) := eqd_of (rcd_lst h) fun z => by obtain ⟨a, _, e, _⟩ := z; exact ⟨a, e⟩
theorem rcd_t2 {α β : Type} [DecidableEq α] [DecidableEq β] {n : Nat} {R : Rel α} {S : Rel β} (h : EqD n R) (g : EqD n S) : RcD (n + 1) (rT2 R S) := by
  refine ⟨fun X pins σ H s A xs ys v w u1 u2 I hu h1 h2 r1 r2 => ?_, fun H xs ys v h1 h2 => ?_⟩
  · obtain ⟨a, x1, y1, e1, ha, p1, q1⟩ := h1
    obtain ⟨b, x2, y2, e2, hb, p2, q2⟩ := h2
    subst e1; subst e2
    cases r1; cases r2
    obtain ⟨z1, its, rv1, t1⟩ := I.hok a _ ha
    obtain ⟨z2, its2, rv2, t2⟩ := I.hok b _ hb
    obtain ⟨c1, c2, rfl, rc1, rc2⟩ := rv1.two
    obtain ⟨d1, d2, rfl, rd1, rd2⟩ := rv2.two
    have he : ∀ j (h1 : j < [c1, c2].toArray.size) (h2 : j < [d1, d2].toArray.size), SeqAt.EqAt A.in1 s [c1, c2].toArray[j] [d1, d2].toArray[j] ((fun j => if j = 0 then decide (xs.1 = ys.1) else decide (xs.2 = ys.2)) j) := fun j h1 h2 => by
      have hj : j = 0 ∨ j = 1 := by have : j < 2 := h1; (clear hu z1 z2 h1 h2; omega)
      rcases hj with rfl | rfl
      · exact h.go X pins σ H s A.in1 _ _ _ _ _ _ I (by show A.units + 1 + n < cLine; omega) p1 p2 rc1 rd1
      · exact g.go X pins σ H s A.in1 _ _ _ _ _ _ I (by show A.units + 1 + n < cLine; omega) q1 q2 rc2 rd2
    have A1 := SeqAt.RcAt.tuples t1 t2 (by omega) he
    have A2 := SeqAt.RcNeAt.tuples t1 t2 (by omega) he
    have e9 : ((List.range (min [c1, c2].toArray.size [d1, d2].toArray.size)).all (fun j => if j = 0 then decide (xs.1 = ys.1) else decide (xs.2 = ys.2)) && [c1, c2].toArray.size == [d1, d2].toArray.size) = decide (xs = ys) := by
      have : min [c1, c2].toArray.size [d1, d2].toArray.size = 2 := rfl
      rw [this, Bool.eq_iff_iff]
      simp [List.range_succ, Prod.ext_iff]
    rw [e9] at A1 A2
    exact ⟨A1, A2⟩
  · obtain ⟨a, x1, y1, e1, ha, p1, q1⟩ := h1
    obtain ⟨b, x2, y2, e2, hb, p2, q2⟩ := h2
    rw [e1] at e2; cases e2
    rw [ha] at hb; cases hb
    exact Prod.ext (h.inj H _ _ _ p1 p2) (g.inj H _ _ _ q1 q2)
theorem eqd_t2 {α β : Type} [DecidableEq α] [DecidableEq β] {n : Nat} {R : Rel α} {S : Rel β} (h : EqD n R) (g : EqD n S) : EqD (n + 1) (rT2 R S) := eqd_of (rcd_t2 h g) fun z => by obtain ⟨a, _, _, e, _⟩ := z; exact ⟨a, e⟩
section
variable {X : Cx}
theorem op_eqD {α : Type} [DecidableEq α] {n : Nat} {R : Rel α} (ok : RcD n R) (hu : X.A.units + n < cLine) : OpR X (compareOp .Eq) (fun v w H Q => ∃ x y, R H x v ∧ R H y w ∧ Q (.bl (decide (x = y))) H) := by
  intro pins s σ H v w u1 u2 Q I r1 r2 h
  obtain ⟨x, y, h1, h2, q⟩ := h
  exact (ok.go X pins σ H s _ x y v w u1 u2 I hu h1 h2 r1 r2).1 _ _ _ _ ⟨.bl (decide (x = y)), H, I, rfl, q⟩
theorem op_neD {α : Type} [DecidableEq α] {n : Nat} {R : Rel α} (ok : RcD n R) (hu : X.A.units + n < cLine) : OpR X (compareOp .NotEq) (fun v w H Q => ∃ x y, R H x v ∧ R H y w ∧ Q (.bl (!decide (x = y))) H) := by
  intro pins s σ H v w u1 u2 Q I r1 r2 h
  obtain ⟨x, y, h1, h2, q⟩ := h
  exact (ok.go X pins σ H s _ x y v w u1 u2 I hu h1 h2 r1 r2).2 _ _ _ _ ⟨.bl (!decide (x = y)), H, I, rfl, q⟩
end
end L2
set_option Elab.async false
set_option linter.all false
set_option maxRecDepth 100000
set_option maxHeartbeats 1000000
namespace L2
open PySem PySem.Spec PyProof.Rows
section
variable {P : Program} {w : World} {K : PySem.W.Frag} {mg : Str → Option Value} {base : Heap}
end
section
variable {X : Cx}
end
end L2
set_option Elab.async false
set_option linter.all false
set_option maxRecDepth 100000
set_option maxHeartbeats 1000000
namespace L2
open PySem PySem.Spec PyProof.Rows
def mn (H : Hp) (a b : Addr) : Hp := del (del H a) b
section
variable {H H' : Hp} {a b c : Addr}
theorem mn_at (h1 : c ≠ a) (h2 : c ≠ b) : mn H a b c = H c := by unfold mn; rw [del_at h2, del_at h1]
theorem mn_n1 : mn H a b a = none := by
  unfold mn del
  by_cases c : a = b
  · rw [if_pos c]
  · rw [if_neg c, if_pos rfl]
theorem mn_n2 : mn H a b b = none := by unfold mn del; rw [if_pos rfl]
theorem mn_ne {o : HO} (h : mn H a b c = some o) : c ≠ a ∧ c ≠ b := ⟨fun z => (by rw [z, mn_n1] at h; cases h), fun z => (by rw [z, mn_n2] at h; cases h)⟩
theorem mn_same : Same (mn H a b) H := fun c o h => by
  obtain ⟨h1, h2⟩ := mn_ne h
  rw [mn_at h1 h2] at h; exact h
theorem mn_mono (s : Same H H') : Same (mn H a b) (mn H' a b) := fun c o h => by
  obtain ⟨h1, h2⟩ := mn_ne h
  rw [mn_at h1 h2] at h ⊢; exact s _ _ h
end
end L2
set_option Elab.async false
set_option linter.all false
namespace L2
open PySem PySem.Spec PyProof.Rows
section
variable {K : PySem.W.Frag} {i j : Nat} {σ : St} {H : Hp} {Q : VK} {a b C dx : Addr} {xs ys : List V} {z c : Int} {v u : V} {f : Str} {fs : List (Str × V)}
end
end L2
set_option linter.all false
namespace L2
end L2
set_option Elab.async false
set_option linter.all false
set_option maxRecDepth 100000
set_option maxHeartbeats 1000000
namespace L2
open PySem PySem.W PySem.Spec PyProof.Rows
section
variable {k : Nat → Int} {n : Nat} {cmp : Nat → Nat → (Bool → Shared → Prop) → Shared → Prop} {s : Shared}
end
end L2
set_option Elab.async false
set_option linter.all false
set_option maxRecDepth 100000
set_option maxHeartbeats 1000000
namespace L2
open PySem PySem.Spec PyProof.Rows
section
variable {prog : Program} {w : World} {A : Around} {E : Value → Shared → Prop} {s : Shared}
end
section
variable {X : Cx}
end
end L2
set_option Elab.async false
set_option linter.all false
set_option maxRecDepth 100000
set_option maxHeartbeats 1000000
namespace L2
open PySem PySem.Spec PyProof.Rows
section
variable {X : Cx} {elt tg iter : Expr} {ifs : List Expr} {scope : Scope} {pos : Pos} {wi : TI} {tt : TTg} {tc : TT} {te : TE}
end
end L2
set_option linter.all false
namespace L2
open PySem
section
variable {P : List Value → Prop}
theorem argS {n : Nat} (h : ∀ a (us : List Value), us.length = n → P (a :: us)) (us : List Value) (e : us.length = n + 1) : P us := by
  cases us with
  | nil => exact absurd e (Nat.succ_ne_zero n).symm
  | cons a us => exact h a us (Nat.succ.inj e)
theorem arg0 (h : P []) (us : List Value) (e : us.length = 0) : P us := by
  rw [List.length_eq_zero_iff.mp e]; exact h
theorem arg1 (h : ∀ a, P [a]) : ∀ us : List Value, us.length = 1 → P us := argS fun a => arg0 (h a)
theorem arg2 (h : ∀ a b, P [a, b]) : ∀ us : List Value, us.length = 2 → P us := argS fun a => arg1 (P := fun us => P (a :: us)) (h a)
theorem arg3 (h : ∀ a b c, P [a, b, c]) : ∀ us : List Value, us.length = 3 → P us := argS fun a => arg2 (P := fun us => P (a :: us)) (h a)
theorem arg4 (h : ∀ a b c d, P [a, b, c, d]) : ∀ us : List Value, us.length = 4 → P us := argS fun a => arg3 (P := fun us => P (a :: us)) (h a)
end
end L2
set_option Elab.async false
set_option linter.all false
set_option maxRecDepth 100000
set_option maxHeartbeats 1000000
namespace L2
open PySem PySem.Spec PyProof.Rows
section
variable {X : Cx}
end
section
variable {X : Cx}
end
end L2
set_option Elab.async false
set_option linter.all false
set_option maxRecDepth 100000
set_option maxHeartbeats 1000000
namespace L2
open PySem PySem.Spec PyProof.Rows
abbrev K0 : PySem.W.Frag := []
theorem SqL.k0 {K : PySem.W.Frag} {H : Hp} {a : Addr} {xs : List V} (h : SqL K0 H a xs) : SqL K H a xs := by
  rcases h with h | ⟨o, _, _, hk, _⟩
  · exact .inl h
  · cases hk
section
variable {X : Cx}
theorem Itl.le (a : Addr) {K : PySem.W.Frag} : (∀ i H, (Itl K0 a).go i H → (Itl K a).go i H) ∧ (∀ i H x H', (Itl K a).yld i H x H' → (Itl K0 a).yld i H x H') ∧ ∀ i H, (Itl K0 a).stop i H → (Itl K a).stop i H :=
  ⟨fun i H ⟨xs, x, h1, h2⟩ => ⟨xs, x, h1.k0, h2⟩, fun i H x H' ⟨e, h⟩ => ⟨e, fun xs hx => h xs hx.k0⟩, fun i H ⟨xs, h1, h2⟩ => ⟨xs, h1.k0, h2⟩⟩
theorem Turn.le {P : Program} {w : World} {K : PySem.W.Frag} {tg : Expr} {J J' : It} {fp : List Addr} {it : Addr} {tn : Nat → Heap → Prop} (t : Turn P w K tg J fp it tn) (h : (∀ i H, J'.go i H → J.go i H) ∧ (∀ i H x H', J.yld i H x H' → J'.yld i H x H') ∧ ∀ i H, J'.stop i H → J.stop i H) : Turn P w K tg J' fp it tn where
  mem := t.mem
  obj := t.obj
  keep := t.keep
  item := fun X e1 e2 e3 e4 i pins s σ H E I hf ht hg => by
    refine wpAny_mono (t.item X e1 e2 e3 e4 i pins s σ H E I hf ht (h.1 i H hg)) (fun r s1 hm0 => ?_) fun _ _ z => z
    obtain ⟨u, e, q⟩ := hm0
    refine ⟨u, e, ?_⟩
    refine wpAny_mono q (fun _ s2 hm0 => ?_) fun _ _ z => z
    obtain ⟨x, H', I', r', y, z⟩ := hm0
    exact ⟨x, H', I', r', h.2.1 i H x H' y, z⟩
  done := fun X e1 e2 e3 e4 i pins s σ H E I hf ht hg => t.done X e1 e2 e3 e4 i pins s σ H E I hf ht (h.2.2 i H hg)
  self := t.self
theorem PIE.le {pins : List (Addr × Obj)} {σ : St} {tg : Expr} {R R' : It → Hp → Prop} {v : Value} {s : Shared} (h : PIE X pins σ tg R' v s) (f : ∀ J H, R' J H → ∃ J', ((∀ i H, J'.go i H → J.go i H) ∧ (∀ i H x H', J.yld i H x H' → J'.yld i H x H') ∧ ∀ i H, J'.stop i H → J.stop i H) ∧ R J' H) : PIE X pins σ tg R v s := by
  obtain ⟨it, fp, tn, J, H', e, I, t, z, g, r⟩ := h
  obtain ⟨J', l, r'⟩ := f J H' r
  exact ⟨it, fp, tn, J', H', e, I, t.le l, z, g, r'⟩
theorem PE.wish {e : Expr} {t : TE} (h : PE X e t) (Q0 : V → Hp → Prop) : PE X e (fun σ H Q => t σ H Q0 ∧ ∀ x H1, Q0 x H1 → Q x H1) := fun pins s σ H Q I ⟨h1, h2⟩ => wpAny_mono (h pins s σ H Q0 I h1) (fun _ _ ⟨x, H1, I1, r1, q1⟩ => ⟨x, H1, I1, r1, h2 x H1 q1⟩) fun _ _ z => z
theorem pi_list0 {tg l : Expr} {tl : TE} (hl : PE X l tl) : PI X tg l (iList K0 tl) := fun pins s σ H R I h =>
  wpAny_mono (pi_list (hl.wish (fun x H1 => ∃ a, x = .ref a ∧ (∃ xs, SqL K0 H1 a xs) ∧ R (Itl K0 a) H1)) pins s σ H (fun J H' => ∃ a, J = Itl X.K a ∧ R (Itl K0 a) H') I ⟨h, fun x H1 ⟨a, e, ⟨xs, hx⟩, r⟩ => ⟨a, e, ⟨xs, hx.k0⟩, a, rfl, r⟩⟩)
    (fun _ _ q => wpAny_mono q (fun _ _ p => p.le fun J H' ⟨a, e, r⟩ => ⟨Itl K0 a, by subst e; exact Itl.le a, r⟩) fun _ _ z => z) fun _ _ z => z
end
end L2
set_option linter.all false
namespace L2
open PySem PySem.Spec PyProof.Rows
end L2
set_option Elab.async false
set_option linter.all false
set_option maxHeartbeats 4000000
namespace L2
open PySem
section
variable {X : Cx} {pins : List (Addr × Obj)} {σ : St} {H : Hp} {s : Shared} {a : Addr} {kvs : List (Key × V)} {k : Key} {u : Value} {A : Around} {E : Value → Shared → Prop}
end
section
variable {X : Cx} {o e f : Expr} {apos cpos : Pos} {td ty tx : TE}
end
end L2
set_option Elab.async false
set_option linter.all false
set_option maxRecDepth 100000
set_option maxHeartbeats 4000000
namespace L2
open PySem PySem.Spec PyProof.Rows
section
variable {X : Cx}
end
end L2
set_option Elab.async false
set_option linter.all false
set_option maxRecDepth 100000
set_option maxHeartbeats 4000000
namespace L2
open PySem PySem.Spec PyProof.Rows
section
variable {X : Cx}
end
end L2
set_option Elab.async false
set_option linter.all false
set_option maxRecDepth 100000
set_option maxHeartbeats 4000000
namespace L2
open PySem PySem.Spec PyProof.Rows
section
variable {X : Cx} {o i : Expr} {pos : Pos} {td ty : TE}
end
end L2
set_option Elab.async false
set_option linter.all false
set_option maxRecDepth 100000
set_option maxHeartbeats 4000000
namespace L2
open PySem PySem.Spec PyProof.Rows
section
variable {X : Cx} {elt tg iter : Expr} {ifs : List Expr} {scope : Scope} {pos : Pos} {N : List Str} {k : Nat} {cap : List Nat} {wi : TI} {tt : TTg} {tc : TT} {te : TE}
end
section
variable {X : Cx} {elt tg iter : Expr} {ifs : List Expr} {scope : Scope} {pos : Pos} {wi : TI} {tt : TTg} {tc : TT} {te : TE}
end
section
variable {X : Cx} {elt tg iter : Expr} {ifs : List Expr} {scope : Scope} {pos : Pos} {wi : TI} {tt : TTg} {tc : TT} {te : TE}
theorem relabel_cf {sc : Scope} {env : Env} {x : Str} (h : sc.names.lookup x = some .cell ∨ sc.names.lookup x = some .free) : (relabel sc env).names.lookup x = some .cell ∨ (relabel sc env).names.lookup x = some .free := by
  rcases h with h | h
  · left
    have go : ∀ (names : List (Str × NameKind)), names.lookup x = some .cell → (names.map fun (n, k) => if (k == NameKind.free && env.scope.kind == .function && env.kindOf n == some .cell) then (n, NameKind.cell) else (n, k)).lookup x = some .cell := by
      intro names
      induction names with
      | nil => intro h; simp at h
      | cons z r ih =>
        obtain ⟨n, k⟩ := z
        intro h
        show List.lookup x ((if (k == NameKind.free && env.scope.kind == .function && env.kindOf n == some .cell) = true then (n, NameKind.cell) else (n, k)) :: _) = _
        cases hx : x == n with
        | true =>
          simp only [List.lookup_cons, hx] at h
          cases h
          split <;> simp [List.lookup_cons, hx]
        | false =>
          simp only [List.lookup_cons, hx] at h
          split <;> (simp only [List.lookup_cons, hx]; exact ih h)
    exact go _ h
  · exact relabel_free h
theorem CompOk.relabel {scope psc : Scope} {N PN : List Str} {k : Nat} {cap : List Nat} {env : Env} (h : CompOk scope psc N PN k cap) : CompOk scope (relabel psc env) N PN k cap :=
  ⟨h.kind, h.len, h.cell, h.loc, fun y hy hf => relabel_cf (h.free y hy hf), h.cap, h.free2⟩
theorem pe_lcN2 {psc : Scope} {env0 : Env} (PN N : List Str) (k : Nat) (cap : List Nat) (hi : PI X tg iter wi) (hg : ∀ cl C s H ex pn, PTg (compCx X scope N cl C s H ex pn) k tg tt) (ht : ∀ cl C s H ex pn, PTs (compCx X scope N cl C s H ex pn) ifs tc)
    (he : ∀ cl C s H ex pn, PE (compCx X scope N cl C s H ex pn) elt te) (hc : X.calm = true := by rfl) (h2 : X.N = PN := by rfl) (h1 : X.env.scope = PySem.relabel psc env0 := by rfl) (S : compOkB scope psc N PN k cap = true := by decide +kernel)
    (hs : ∀ x, foldedSetIterable iter X.env x = pure x := by intro _; rfl) :
    PE X (.ListComp elt [⟨tg, iter, ifs, 0⟩] scope pos) (tComp wi tt tc te cap) := pe_comp hc (by rw [h2, h1]; exact (compOk_of S).relabel) hi hg ht he hs
end
end L2
set_option Elab.async false
set_option linter.all false
set_option maxRecDepth 100000
set_option maxHeartbeats 4000000
namespace L2
open PySem PySem.Spec PyProof.Rows
end L2
set_option Elab.async false
set_option linter.all false
set_option maxRecDepth 100000
set_option maxHeartbeats 4000000
namespace L2
open PySem PySem.Spec PyProof.Rows
theorem comp_enumD {K : PySem.W.Frag} {a : Addr} {xs : List V} {tt : TTg} {tc : TT} {te : TE} {cap : List Nat} {σ : St} {H : Hp} {D : Addr → List V → Hp → Prop} (Pv : Nat → List V → Hp → Prop) (h0 : Pv 0 [] H) (hz : xs.length ≤ sizeLine) (hl : ∀ i ys H, i ≤ xs.length → Pv i ys H → SqL K H a xs ∧ ys.length ≤ i)
    (hs : ∀ i x T ys H, xs[i]? = some x → Pv i ys H → H T = none → tt (.ref T) (upd H T (.tup [.int (i : Nat), x])) fun ws => tc (ws.map some ++ capS σ cap) (upd H T (.tup [.int (i : Nat), x])) fun b H4 => if b = true then te (ws.map some ++ capS σ cap) H4 fun y H5 => Pv (i + 1) (ys ++ [y]) H5 else Pv (i + 1) ys H4)
    (hd : ∀ ys H, Pv xs.length ys H → ∀ p, H p = none → D p ys H) :
    ∃ W : Nat → Nat → List V → Hp → Prop, (∃ m, W 0 m [] H) ∧ ∀ i m ys H2, W i m ys H2 →
    ((Ite K a).stop i H2 ∧ ys.length ≤ sizeLine ∧ ∀ p, H2 p = none → D p ys H2) ∨
    ((Ite K a).go i H2 ∧ ∃ N : List V → Hp → Prop, (∀ ys' H', N ys' H' → ys'.length ≤ sizeLine ∧ ∃ m', m' < m ∧ W (i + 1) m' ys' H') ∧
      ∀ x H3, (Ite K a).yld i H2 x H3 → tt x H3 fun ws => tc (ws.map some ++ capS σ cap) H3 fun b H4 => if b = true then te (ws.map some ++ capS σ cap) H4 fun y H5 => N (ys ++ [y]) H5 else N ys H4) := by
  refine ⟨fun i m ys H => m = xs.length - i ∧ i ≤ xs.length ∧ Pv i ys H, ⟨xs.length, by simp, Nat.zero_le _, h0⟩, ?_⟩
  rintro i m ys H2 ⟨rfl, hi, p⟩
  obtain ⟨q, hy⟩ := hl i ys H2 hi p
  by_cases hlt : i < xs.length
  · refine .inr ⟨⟨xs, xs[i], q, by simp [hlt]⟩, Pv (i + 1), fun ys' H' r => ?_, fun x H3 y => ?_⟩
    · obtain ⟨_, h2⟩ := hl (i + 1) ys' H' hlt r
      exact ⟨by omega, xs.length - (i + 1), by omega, rfl, hlt, r⟩
    · obtain ⟨T, z, rfl, hT, y, rfl⟩ := y
      exact hs i z T ys _ (y xs q) p hT
  · have e : i = xs.length := by omega
    subst e
    exact .inl ⟨⟨xs, q, Nat.le_refl _⟩, by omega, hd ys H2 p⟩
end L2
set_option Elab.async false
set_option linter.all false
set_option maxRecDepth 100000
set_option maxHeartbeats 4000000
namespace L2
open PySem PySem.Spec PyProof.Rows
section
variable {X : Cx}
end
end L2
set_option Elab.async false
set_option linter.all false
set_option maxRecDepth 100000
set_option maxHeartbeats 4000000
namespace L2
open PySem PySem.Spec PyProof.Rows
end L2
set_option Elab.async false
set_option linter.all false
set_option maxRecDepth 100000
set_option maxHeartbeats 4000000
namespace L2
open PySem PySem.Spec PyProof.Rows
end L2
set_option Elab.async false
set_option linter.all false
set_option maxRecDepth 100000
set_option maxHeartbeats 4000000
namespace L2
open PySem PySem.Spec PyProof.Rows
end L2
set_option Elab.async false
set_option linter.all false
set_option maxRecDepth 100000
set_option maxHeartbeats 4000000
namespace L2
open PySem PySem.Spec PyProof.Rows
section
variable {P : Program} {w : World} {A : Around} {E : Value → Shared → Prop} {s : Shared}
end
end L2
set_option Elab.async false
set_option linter.all false
set_option maxRecDepth 100000
set_option maxHeartbeats 4000000
namespace L2
open PySem PySem.Spec PyProof.Rows
section
variable {X : Cx} {K : PySem.W.Frag}
end
end L2
set_option Elab.async false
set_option linter.all false
set_option maxRecDepth 100000
set_option maxHeartbeats 4000000
namespace L2
open PySem PySem.Spec PyProof.Rows
end L2
set_option Elab.async false
set_option linter.all false
set_option maxRecDepth 100000
set_option maxHeartbeats 1000000
namespace L2
open PySem PySem.Spec PyProof.Rows
section
variable {M : Model} {A : Around} {E : Value → Shared → Prop} {s : Shared} {B : Heap} {env : Env} {outer : List Env} {l : List Env} {L e : Addr} {cls a0 fl : Value}
end
end L2
set_option Elab.async false
set_option linter.all false
set_option maxRecDepth 100000
set_option maxHeartbeats 1000000
namespace L2
open PySem PySem.Spec PyProof.Rows
section
variable {X : Cx} {pins : List (Addr × Obj)} {σ : St} {H : Hp} {s : Shared}
end
end L2
set_option Elab.async false
set_option linter.all false
set_option maxRecDepth 100000
set_option maxHeartbeats 1000000
namespace L2
open PySem PySem.Spec PyProof.Rows
end L2
set_option Elab.async false
set_option linter.all false
set_option maxRecDepth 100000
set_option maxHeartbeats 1000000
namespace L2
open PySem PySem.Spec PyProof.Rows
section
variable {X : Cx} {elt tg iter : Expr} {ifs : List Expr} {scope : Scope} {pos : Pos} {N : List Str} {k : Nat} {cap : List Nat} {wi : TI} {tt : TTg} {tc : TT} {te : TE}
end
end L2
set_option Elab.async false
set_option linter.all false
set_option maxRecDepth 100000
set_option maxHeartbeats 1000000
namespace L2
open PySem PySem.Spec PyProof.Rows
section
variable {X : Cx} {elt tg iter : Expr} {ifs : List Expr} {scope : Scope} {pos : Pos} {N : List Str} {k : Nat} {cap : List Nat} {wi : TI} {tt : TTg} {tc : TT} {te : TE}
end
section
variable {X : Cx} {elt tg iter : Expr} {ifs : List Expr} {scope : Scope} {pos : Pos} {wi : TI} {tt : TTg} {tc : TT} {te : TE}
end
end L2
set_option Elab.async false
set_option linter.all false
set_option maxRecDepth 100000
set_option maxHeartbeats 1000000
namespace L2
open PySem PySem.Spec PyProof.Rows
section
variable {P : Program} {w : World} {K : PySem.W.Frag} {mg : Str → Option Value} {base : Heap}
end
section
variable {X : Cx} {E : XK}
end
end L2
set_option Elab.async false
set_option linter.all false
set_option maxRecDepth 100000
set_option maxHeartbeats 1000000
namespace L2
open PySem PySem.Spec PyProof.Rows
section
variable {X : Cx} {k n : Nat} {f C : Addr} {fd : FuncData} {ps fs : List Str} {sp : Sp} {x m : Str} {p pos apos : Pos} {e o : Expr} {es : List Expr} {ta : TE} {t : TA}
end
section
variable {X : Cx}
end
end L2
set_option Elab.async false
set_option linter.all false
set_option maxRecDepth 100000
set_option maxHeartbeats 1000000
namespace L2
open PySem PySem.Spec PyProof.Rows
end L2
set_option Elab.async false
set_option linter.all false
set_option maxRecDepth 100000
namespace L2
open PySem PySem.W PySem.Calls PyProof.Rows
def topRunT (tb : String → Option Builtin) (p : Program) (w : World) (n₀ : Nat) (ann : Option Value) : Nat → SharedT → Thread → Option SharedT
  | 0, _, _ => none
  | n + 1, s, t => match through t with
    | true => some s
    | false => match stepOk n₀ ann t with
      | false => none
      | true => match stepT (denote tb) p w s t with
        | some (s', t') => topRunT tb p w n₀ ann n s' t'
        | none => none
theorem topRun_of {tb : String → Option Builtin} {p : Program} {w : World} {n₀ : Nat} {ann : Option Value} : ∀ {n : Nat} {s s' : SharedT} {t : Thread}, topRunT tb p w n₀ ann n s t = some s' → topRun tb p w n₀ ann n s.abs t = some s'.abs
  | 0, _, _, _, h => by cases h
  | n + 1, s, s', t, h => by
    unfold topRunT at h
    unfold topRun
    cases he : through t with
    | true => rw [he] at h; cases h; rfl
    | false =>
      rw [he] at h
      cases hk : stepOk n₀ ann t with
      | false => rw [hk] at h; cases h
      | true =>
        rw [hk] at h
        cases hs : stepT (denote tb) p w s t with
        | none => rw [hs] at h; cases h
        | some r => obtain ⟨s₂, t₂⟩ := r; rw [hs] at h; rw [stepT_spec hs]; exact topRun_of h
noncomputable def topRunQ (p : Program) (w : World) (n₀ : Nat) (ann : Option Value) : Nat → SharedT → Thread → Option SharedT
  | 0, _, _ => none
  | n + 1, s, t => match through t with
    | true => some s
    | false => match PySem.W.Fast.tw6613529449190102663 n₀ ann t with
      | false => none
      | true => match PySem.W.Fast.tw10156331382660048174 (PySem.W.Fast.tw11892475500146522536 PySem.W.Fast.tw14364793385576792824) p w s t with
        | some (s', t') => topRunQ p w n₀ ann n s' t'
        | none => none
theorem topRunQ_eq {p : Program} {w : World} {n₀ : Nat} {ann : Option Value} : ∀ (n : Nat) (s : SharedT) (t : Thread), topRunQ p w n₀ ann n s t = topRunT treeTable p w n₀ ann n s t
  | 0, _, _ => rfl
  | n + 1, s, t => by
    unfold topRunQ topRunT
    rw [← PySem.W.Fast.te6613529449190102663, ← PySem.W.Fast.te10156331382660048174, ← PySem.W.Fast.te11892475500146522536, ← PySem.W.Fast.te14364793385576792824]
    cases through t with
    | true => rfl
    | false =>
      dsimp only
      cases stepOk n₀ ann t with
      | false => rfl
      | true =>
        dsimp only
        cases stepT (denote treeTable) p w s t with
        | none => rfl
        | some r => exact topRunQ_eq n r.1 r.2
def treeOf : List Obj → Nat → BT → BT
  | [], _, t => t
  | o :: l, n, t => treeOf l (n + 1) (t.ins n o)
noncomputable def boot_tree (P : Params) : BT := treeOf (boot_heap P).objs.toList 0 .nil
noncomputable def topLook {α : Type} (p q : Program) (loose : List Str) (Xt : Shared → Bool) (g0 : Bool) (Yf : Shared → α) (H : Heap) (s : Shared) :=
  ((staticsOk (importedModules p.main.body) H s.heap && namesBound p s.heap && gensDone s && laidKept H s.heap), PySem.W.Fast.tw4187177175401517315 q loose (importedModules p.main.body) Xt g0 s, Yf s)
theorem left_tree {p q : Program} {loose : List Str} {Xt : Shared → Bool} {α : Type} {Yf : Shared → α} {Ya : World → α} {N : Nat} {g0 : Bool} {H₀ : Params → Heap} {gs₀ : Array GenState} {d₀ : Drawn} {k₀ : Nat} {m₀ : Nat} {ann : Option Value} {M : Nat} {T₀ : Params → BT} {n₀ : Nat} {life : Life}
    (open_ : ∀ w : World, (fencedOpening treeTable p w N).map (fun s => (s.heap, s.gens, s.drawn, s.toks)) = some (H₀ w.params, gs₀, d₀, k₀))
    (size : ∀ w : World, ((H₀ w.params).isNs mainGlobals && gs₀.size == 0, (H₀ w.params).objs.size, (H₀ w.params).nsMap mainGlobals "__annotations__") = (true, m₀, ann))
    (tree : ∀ P : Params, absHeap (T₀ P) n₀ life = H₀ P)
    (run : ∀ (w : World) (os : OsState), (topRunQ p w m₀ ann M ⟨T₀ w.params, n₀, life, gs₀, d₀, k₀, os⟩ (topStub p)).map (fun r => topLook p q loose Xt g0 Yf (H₀ w.params) r.abs) = some (true, openGood q loose, Ya w))
    (le : Nat.ble M N = true) : LeftO p q loose Xt Yf Ya N g0 := fun w => by
  obtain ⟨⟨h, gs, d, k, os⟩, e, e'⟩ := Option.map_eq_some_iff.mp (open_ w)
  obtain ⟨rfl, rfl, rfl, rfl⟩ : h = H₀ w.params ∧ gs = gs₀ ∧ d = d₀ ∧ k = k₀ := by simpa using e'
  obtain ⟨z1, z2, z3⟩ : _ ∧ _ ∧ _ := by simpa only [Prod.mk.injEq] using size w
  obtain ⟨r, hr, hl⟩ := Option.map_eq_some_iff.mp (run w os)
  obtain ⟨l1, l2, l3⟩ : _ ∧ _ ∧ _ := by simpa only [topLook, ← PySem.W.Fast.te4187177175401517315, Prod.mk.injEq] using hl
  rw [topRunQ_eq] at hr
  have r2 := topRun_of hr
  have ea : SharedT.abs ⟨T₀ w.params, n₀, life, gs, d, k, os⟩ = ⟨H₀ w.params, gs, d, k, os⟩ := by
    unfold SharedT.abs
    rw [tree]
  rw [ea] at r2
  have r3 := topRun_mono (N - M) _ _ _ _ r2
  rw [show M + (N - M) = N by have := Nat.le_of_ble_eq_true le; omega] at r3
  have t : topFrom treeTable p w N ⟨H₀ w.params, gs, d, k, os⟩ = some r.abs := by
    unfold topFrom
    dsimp only
    rw [z1, z2, z3, r3]
    show (match staticsOk (importedModules p.main.body) (H₀ w.params) r.abs.heap && namesBound p r.abs.heap && gensDone r.abs && laidKept (H₀ w.params) r.abs.heap with | true => _ | false => _) = _
    rw [l1]
  unfold openEnds
  rw [e]
  show (topFrom treeTable p w N _).map _ = _
  rw [t]
  exact congrArg some (Prod.ext l2 l3)
end L2
set_option Elab.async false
set_option linter.all false
set_option maxRecDepth 100000
set_option maxHeartbeats 1000000
namespace L2
open PySem PySem.W PySem.Calls PyProof.Rows
def partOf (as : List Addr) (h : Heap) : Frag := as.filterMap fun a => (h.get? a).map fun o => (a, o)
theorem partOf_in (h : Heap) : ∀ as : List Addr, (partOf as h).In h
  | [], a, o, e => by cases e
  | b :: l, a, o, e => by
    unfold partOf at e
    rw [List.filterMap_cons] at e
    cases hb : h.get? b with
    | none => rw [hb] at e; exact partOf_in h l a o e
    | some x =>
      rw [hb] at e
      have e : List.lookup a ((b, x) :: l.filterMap fun a => (h.get? a).map fun o => (a, o)) = some o := e
      rw [List.lookup_cons] at e
      cases q : a == b with
      | true =>
        rw [q] at e
        have eab : a = b := eq_of_beq q
        have e : some x = some o := e
        rw [eab, hb, e]
      | false => rw [q] at e; exact partOf_in h l a o e
def posOf (s : Stmt) : Pos := match s with
  | .FunctionDef _ _ _ _ _ _ _ _ _ p => p
  | _ => ⟨0, 0, 0, 0⟩
def dfOf (K : Frag) : Value → Option (Option (List Value))
  | .none => some none
  | .ref T => match K.lookup T with
    | some ⟨_, _, .seq vs _, _⟩ => some (some vs.toList)
    | _ => none
  | _ => none
abbrev Sig := (Str × Str × Addr × List (Str × Addr) × Option (Option (List Value)) × Addr) × (Bool × Bool) × Arguments × FuncBody × Scope
def fnLook (K : Frag) (v : Option (Option Value)) (qual : Str) : Option Sig := match v with
  | some (some (.ref f)) => match K.lookup f with
    | some ⟨_, _, .func fd, _⟩ => some ((fd.name, fd.qualname, fd.globals, fd.closure, dfOf K fd.defaults, fd.builtins), (codeIn K fd.code qual, isFn K (.ref f)), fd.params, fd.body, fd.scope)
    | _ => none
  | _ => none
def sigW (x qual : Str) (st : Stmt) (df : Option (List Value)) : Sig := ((x, qual, mainGlobals, [], some df, builtinsNs), (true, true), defArgs st, .stmts (defBody st), defScope st)
theorem keep_fn {K : Frag} {f : Addr} {oc : Value} {od : Option Addr} {fd : FuncData} {sl : Array (Option Value)} (l : K.lookup f = some ⟨oc, od, .func fd, sl⟩) : keepIn K (.ref f) = true := by
  unfold keepIn
  simp only [l]
theorem fnLook_ex {K : Frag} {v : Option (Option Value)} {x qual : Str} {st : Stmt} {df : Option (List Value)} (e : fnLook K v qual = some (sigW x qual st df)) :
    ∃ (f : Addr) (oc : Value) (od : Option Addr) (dV kV doc pm : Value) (an : Option Addr) (cdv ct : Value) (sl : Array (Option Value)), v = some (some (.ref f)) ∧ K.lookup f = some ⟨oc, od, .func (fnOf x qual (defArgs st) (defBody st) (defScope st) dV kV doc pm an cdv ct), sl⟩ ∧
      codeIn K cdv qual = true ∧ isFn K (.ref f) = true ∧ dfOf K dV = some df := by
  unfold fnLook at e
  split at e
  · rename_i f
    split at e
    · rename_i oc od fd sl hl
      obtain ⟨nm, qn, ps, bd, sc, gl, cl, dV, kV, doc, pm, an, cd, ct, bl⟩ := fd
      injection e with e
      injection e with e1 e2
      injection e1 with a1 e1
      injection e1 with a2 e1
      injection e1 with a3 e1
      injection e1 with a4 e1
      injection e1 with a5 a6
      injection e2 with e3 e4
      injection e3 with b1 b2
      injection e4 with c1 e4
      injection e4 with c2 c3
      dsimp only at a1 a2 a3 a4 a5 a6 b1 b2 c1 c2 c3
      subst a1 a2 a3 a4 a6 c1 c2 c3
      exact ⟨f, oc, od, dV, kV, doc, pm, an, cd, ct, sl, rfl, hl, b1, b2, a5⟩
    · cases e
  · cases e
theorem dfOf_none {K : Frag} {v : Value} (e : dfOf K v = some none) : v = .none := by
  unfold dfOf at e
  split at e
  · rfl
  · split at e <;> cases e
  · cases e
theorem fnLook_fun {K : Frag} {v : Option (Option Value)} {x qual : Str} {st : Stmt} (e : fnLook K v qual = some (sigW x qual st none)) : ∃ f fd, v = some (some (.ref f)) ∧ Fun K x qual st f fd ∧ isFn K (.ref f) = true := by
  obtain ⟨f, oc, od, dV, kV, doc, pm, an, cdv, ct, sl, hv, l, c, i, d⟩ := fnLook_ex e
  obtain rfl := dfOf_none d
  exact ⟨f, _, hv, fun_mk l c (keep_fn l), i⟩
inductive Ky where
  | df (x : Str)
  | me (c m qual : Str)
def Ky.val (K : Frag) : Ky → Option (Option Value)
  | .df x => nsIn K mainGlobals x
  | .me c m _ => match nsIn K mainGlobals c with
    | some (some v) => findIn K v m
    | _ => none
def Ky.qual : Ky → Str
  | .df x => x
  | .me _ _ q => q
def Ky.nm : Ky → Str
  | .df x => x
  | .me _ m _ => m
def clsLook (K : Frag) (c : Str × List Str) : Option (Bool × Option (Option Value) × List (Option (Option Value))) := match nsIn K mainGlobals c.1 with
  | some (some (.ref C)) => some (plainGet K C Str.empty && hasDictIn K C && plainOver K C && makesIn K C && keepIn K (.ref C), findIn K (.ref C) "__setattr__", c.2.map fun f => findIn K (.ref C) f)
  | _ => none
def intLook (K : Frag) (x : Str) : Option Int := match nsIn K mainGlobals x with
  | some (some (.int v _)) => some v
  | _ => none
def strLook (K : Frag) (x : Str) : Option Str := match nsIn K mainGlobals x with
  | some (some (.str v _)) => some v
  | _ => none
structure Asked (β : Type) where
  ks : List (Ky × Stmt × Option (List Value))
  cs : List (Str × List Str) := []
  is : List (Str × Int) := []
  ss : List (Str × Str) := []
  bs : List Str := []
  xc : Frag → Bool := fun _ => true
  ext : Frag → β
  extW : World → β
section
variable {β : Type} (A : Asked β)
def Asked.look (K : Frag) := (A.ks.map fun k => fnLook K (k.1.val K) k.1.qual, A.cs.map (clsLook K), A.is.map fun x => intLook K x.1, A.ss.map fun x => strLook K x.1, A.bs.map fun x => nsIn K mainGlobals x, A.xc K, A.ext K)
def Asked.want (w : World) := (A.ks.map fun k => some (sigW k.1.nm k.1.qual k.2.1 k.2.2), A.cs.map fun c => some (true, some (some (Value.builtin "object.__setattr__")), c.2.map fun _ => some (none : Option Value)), A.is.map fun x => some x.2, A.ss.map fun x => some x.2, A.bs.map fun _ => some (none : Option Value), true, A.extW w)
def Asked.Ok (w : World) (K : Frag) : Prop := A.look K = A.want w
end
theorem map_at {α γ : Type} {l : List α} {f g : α → γ} (e : l.map f = l.map g) {i : Nat} {a : α} (h : l[i]? = some a) : f a = g a := by
  have z := congrArg (fun l => l[i]?) e
  simp only [List.getElem?_map, h, Option.map_some] at z
  injection z
section
variable {β : Type} {A : Asked β} {w : World} {K : Frag} {h : Heap} {mg : Str → Option Value}
theorem Asked.Ok.fn (e : A.Ok w K) {i : Nat} {k : Ky} {st : Stmt} {df : Option (List Value)} (hi : A.ks[i]? = some (k, st, df)) : fnLook K (k.val K) k.qual = some (sigW k.nm k.qual st df) := map_at (f := fun k : Ky × Stmt × Option (List Value) => fnLook K (k.1.val K) k.1.qual) (g := fun k => some (sigW k.1.nm k.1.qual k.2.1 k.2.2)) (congrArg Prod.fst e) hi
theorem Asked.Ok.defAt (e : A.Ok w K) (X : K.In h) (G : h.Ns mainGlobals mg) (i : Nat) {x : Str} {st : Stmt} {ps : List Str} (hi : A.ks[i]? = some (.df x, st, none))
    (hb : ∀ (kV doc pm : Value) (an : Option Addr) (cdv ct : Value) (us : List Value), us.length = ps.length → bindArgs (fnOf x x (defArgs st) (defBody st) (defScope st) .none kV doc pm an cdv ct) ⟨us, []⟩ = pure (ps.zip us)) : DefAt K mg x st ps := by
  obtain ⟨f, fd, hv, F, _⟩ := fnLook_fun (e.fn hi)
  exact ⟨f, fd, F, mg_of X G hv, F.binds hb⟩
theorem Asked.Ok.law (e : A.Ok w K) (X : K.In h) (G : h.Ns mainGlobals mg) (i : Nat) {x : Str} {st : Stmt} {fa : Addr} (hi : A.ks[i]? = some (.df x, st, none)) (hm : mg x = some (.ref fa)) :
    ∃ kV doc pm an cdv ct, Fun K x x st fa (fnOf x x (defArgs st) (defBody st) (defScope st) .none kV doc pm an cdv ct) := by
  obtain ⟨f, oc, od, dV, kV, doc, pm, an, cdv, ct, sl, hv, l, c, _, d⟩ := fnLook_ex (e.fn hi)
  obtain rfl := dfOf_none d
  have z := hm.symm.trans (mg_of X G hv)
  injection z with z
  injection z with z
  subst z
  exact ⟨kV, doc, pm, an, cdv, ct, fun_mk l c (keep_fn l)⟩
theorem Asked.Ok.noneAt (e : A.Ok w K) (X : K.In h) (G : h.Ns mainGlobals mg) (i : Nat) {x : Str} (hi : A.bs[i]? = some x) : mg x = Option.none :=
  mg_none_of X G (map_at (f := fun x => nsIn K mainGlobals x) (g := fun _ => some (none : Option Value)) (congrArg (fun p => p.2.2.2.2.1) e) hi)
theorem Asked.Ok.exc (e : A.Ok w K) : A.xc K = true := congrArg (fun p => p.2.2.2.2.2.1) e
end
theorem walk_ex {l : OpenLaw} {n k : Nat} {q : Program} {loose : List Str} {XP : (Str → Option Value) → Heap → Prop} {d : DefRec} {Fc : World → Frag → Prop} {sp : Frag → Sp} {x nm : Str}
    (hn : l.most = some n) (hn2 : n ≤ sizeLine) (hdf : d.params.defaults = []) (hr : Room k callerA) (hnm : d.name = nm)
    (F : ∀ (w : World) (K : Frag) (mg : Str → Option Value) (fa : Addr) (h : Heap), Fc w K → K.In h → h.Ns mainGlobals mg → mg nm = some (.ref fa) →
      ∃ fd : FuncData, (∀ (s : Shared) (u : Value), BindsTo s fd ⟨[u], []⟩ [(x, u)]) ∧ ∀ base : Heap, K.In base → base.Ns mainGlobals mg → FnOk l.prog w K mg base CX0 k fa fd [x] (sp K))
    (hsp : ∀ (K : Frag) (H : Hp) (a : Addr) (ns : List Int), ns.length ≤ n → Only H → SqL K H a (ns.map V.int) → sp K [.ref a] H (fun v _ => v = .bl true) fun _ _ _ => False)
    (hCX : ∀ (H : Hp) (s : Shared) (e : Value) (s' : Shared), CX0 [] H s (fun _ _ _ => False) e s' → False) :
    WalkO q loose XP (fun w h => ∃ K : Frag, K.In h ∧ Fc w K) l.row.toRowW d [] (fun f vs => PySem.call f vs) := by
  refine Att.attach_call hn hdf fun w s₀ s₁ mg mb fa o pm cd doc a vs ns G Y ho hd hcd hmg hobj hints hlen hg => ?_
  obtain ⟨K, KX, fc⟩ := Y
  rw [hnm] at hmg
  obtain ⟨fd, hb, hF⟩ := F w K mg fa _ fc KX G.T.g hmg
  exact law_call KX G.T.g G.T.b G.T.builtins G.T.nolimit hg hobj hints (Nat.le_trans hlen hn2) hr hF hb (fun H hO hS => hsp K H a ns hlen hO hS) fun H e s' => hCX H s₁ e s'
end L2
set_option Elab.async false
set_option linter.all false
set_option maxRecDepth 100000
set_option maxHeartbeats 1000000
namespace L2
open PySem PySem.W PySem.Calls PyProof.Rows
section
variable {w : World} {K : Frag} {h : Heap} {mg : Str → Option Value} {x : Str}
end
end L2
set_option Elab.async false
set_option linter.all false
set_option maxRecDepth 100000
set_option maxHeartbeats 1000000
namespace L2
open PySem PySem.Spec PyProof.Rows
end L2
set_option Elab.async false
set_option linter.all false
set_option maxRecDepth 100000
set_option maxHeartbeats 1000000
namespace L2
open PySem PySem.Spec PyProof.Rows
section
variable {X : Cx} {pos : Pos}
def gLst (K : PySem.W.Frag) (n : Nat) (t : TGs) : TG := fun v σ H Q => ∃ a xs, v = .ref a ∧ SqL K H a xs ∧ xs.length = n ∧ t xs σ H Q
theorem pg_lst {es : List Expr} {k : Nat} {t : TGs} {n : Nat} (hc : X.calm = true) (h : PGs X es t)
    (hn : (assignEach es X.env).length = n := by rfl) (hst : (assignEach es X.env).findIdx? (·.1) = none := by rfl) : PG X (.Tuple es k pos) (gLst X.K n t) := by
  intro pins s σ H v u Q I r hw
  obtain ⟨a, xs, e1, hq, hl, hw⟩ := hw
  subst e1
  cases r
  obtain ⟨its, rv, ht, hz⟩ := I.list hq
  rw [assign_Tuple]
  refine wpAny_bind (wpAny_standAt ?_)
  unfold unpack
  have e : (assignEach es X.env).length = its.toArray.size := by simp [hn, ← hl, rv.length]
  rw [e, hst]
  refine wpAny_bind (wpAny_holding (PySem.W.kun_itemsOf (I.ok.hd hc) ht.isList fun h' hx => ?_))
  have I1 : Inv X pins σ H { s with heap := h' } := I.kept (t' := s.toks) fun b o e => hx b o (Nat.ne_of_lt (Heap.lt_size e)) e
  exact h pins _ σ H xs _ Q I1 (by simpa using rv) hw
end
section
variable {X : Cx} {pins : List (Addr × Obj)} {σ : St} {H : Hp} {s : Shared}
end
section
variable {X : Cx}
end
end L2
set_option Elab.async false
set_option linter.all false
set_option maxRecDepth 100000
set_option maxHeartbeats 1000000
namespace L2
open PySem PySem.Spec PyProof.Rows
section
variable {P : Program} {w : World} {A : Around} {E : Value → Shared → Prop} {s : Shared}
theorem len_body {d : Addr} {o : Obj} {es : Array DictEntry} {ep : Nat} {Q : Value → Shared → Prop} (lo : (d == sysModules) = false) (ho : s.heap.get? d = some o) (hx : o.ExactDict) (hd : o.data = .dict es ep) (hfit : (es.size : Int) < 2 ^ 63)
    (q : ∀ t t' : Tok, s.toks ≤ t' → Q (.int (es.size : Nat) t) { s with toks := t' }) : wpAny (model P w) A (call (.builtin "len") [.ref d]) Q E s := by
  have ty : s.TypeIs (.ref d) "dict" := ⟨o, ho, hx.1⟩
  refine Calls.call_function_entry kind_len plain_len entry_len (args_len1 (.ref d)) ?_
  unfold Builtin.len
  refine wpAny_bind (m := oneArg "len" _) (wpAny_pure ?_)
  refine wpAny_bind (wpAny_callSpecial?_slot ty F.slot_dict_len (wpAny_call_entry F.slot_dict_len ty F.entry_dict_len ?_ (F.args_dict_len_1 _)))
  unfold Builtin.«dict.__len__»
  unfold Builtin.Dict.dictSlotNone
  refine wpAny_bind (wpAny_bind (wpAny_notOrdered_dict ty ?_))
  refine wpAny_bind (m := slotArgs "__len__" 0 _) (wpAny_pure (wpAny_pure ?_))
  refine wpAny_bind (m := Builtin.Dict.addrOf (.ref d)) (wpAny_pure ?_)
  refine wpAny_bind ?_
  unfold dictSize
  refine wpAny_bind (wpAny_dictEntries ho hd (wpAny_pure ?_))
  refine wpAny_bind (wpAny_pendingCount_other lo ?_)
  refine wpAny_ret_mkInt ?_
  refine wpAny_bind (wpAny_holding (wpAny_pure ?_))
  refine wpAny_bind (wpAny_letGo ?_)
  have e0 : ((es.size : Nat) : Int) + ((0 : Nat) : Int) = ((es.size : Nat) : Int) := by omega
  rw [e0]
  show wpAny _ _ (ite _ _ _) _ _ _
  rw [if_neg (by omega)]
  show wpAny _ _ (ite _ _ _) _ _ _
  rw [if_neg (by omega)]
  exact wpAny_bind (wpAny_mkInt (wpAny_pure ⟨_, rfl, q _ _ (by show s.toks ≤ s.toks + 1 + 1; exact Nat.le_succ_of_le (Nat.le_succ _))⟩))
end
end L2
set_option Elab.async false
set_option linter.all false
set_option maxRecDepth 100000
set_option maxHeartbeats 1000000
namespace L2
open PySem
end L2
set_option Elab.async false
set_option linter.all false
set_option maxRecDepth 100000
set_option maxHeartbeats 1000000
namespace L2
open PySem
end L2
set_option Elab.async false
set_option linter.all false
set_option maxRecDepth 100000
set_option maxHeartbeats 1000000
namespace L2
open PySem
end L2
set_option Elab.async false
set_option linter.all false
set_option maxRecDepth 100000
set_option maxHeartbeats 1000000
namespace L2
open PySem
section
variable {R : Int → Wy → Prop}
end
end L2
set_option Elab.async false
set_option linter.all false
set_option maxRecDepth 100000
set_option maxHeartbeats 1000000
namespace L2
open PySem
theorem nodup_subA {α : Type} [DecidableEq α] : ∀ (l1 l2 : List α), l1.Nodup → (∀ x ∈ l1, x ∈ l2) → l1.length ≤ l2.length
  | [], _, _, _ => Nat.zero_le _
  | x :: l1, l2, hn, hs => by
    have hx : x ∈ l2 := hs x List.mem_cons_self
    have hxn := (List.nodup_cons.mp hn).1
    have := nodup_subA l1 (l2.erase x) (List.nodup_cons.mp hn).2 fun y hy => (List.mem_erase_of_ne (fun e => by subst e; exact hxn hy)).mpr (hs y (List.mem_cons_of_mem _ hy))
    rw [List.length_erase_of_mem hx] at this
    have := List.length_pos_of_mem hx
    simp; omega
end L2
set_option Elab.async false
set_option linter.all false
set_option maxRecDepth 100000
set_option maxHeartbeats 1000000
namespace L2
open PySem
structure Mch where
  asks : Nat
  ans : Nat → Nat → Int
  nxt : Nat → Nat → Nat
def Eqv (M : Mch) : Nat → Nat → Nat → Prop
  | 0, _, _ => True
  | k + 1, p, q => ∀ a, a < M.asks → M.ans p a = M.ans q a ∧ Eqv M k (M.nxt p a) (M.nxt q a)
theorem Eqv.less {M : Mch} : ∀ {k p q}, Eqv M (k + 1) p q → Eqv M k p q
  | 0, _, _, _ => trivial
  | k + 1, p, q, h => fun a ha => ⟨(h a ha).1, (h a ha).2.less⟩
theorem Eqv.symm {M : Mch} : ∀ {k p q}, Eqv M k p q → Eqv M k q p
  | 0, _, _, _ => trivial
  | k + 1, _, _, h => fun a ha => ⟨(h a ha).1.symm, (h a ha).2.symm⟩
theorem Eqv.trans {M : Mch} : ∀ {k p q r}, Eqv M k p q → Eqv M k q r → Eqv M k p r
  | 0, _, _, _, _, _ => trivial
  | k + 1, _, _, _, h1, h2 => fun a ha => ⟨(h1 a ha).1.trans (h2 a ha).1, (h1 a ha).2.trans (h2 a ha).2⟩
theorem Eqv.mono {M : Mch} {p q : Nat} {k : Nat} : ∀ {m}, Eqv M (k + m) p q → Eqv M k p q
  | 0, h => h
  | m + 1, h => Eqv.mono (m := m) h.less
theorem eqv_stays {M : Mch} {n k : Nat} (hn : ∀ p a, p < n → a < M.asks → M.nxt p a < n) (h : ∀ p q, p < n → q < n → Eqv M k p q → Eqv M (k + 1) p q) : ∀ m p q, p < n → q < n → Eqv M k p q → Eqv M (k + m) p q
  | 0, _, _, _, _, e => e
  | m + 1, p, q, hp, hq, e => fun a ha => by
    have := h p q hp hq e a ha
    exact ⟨this.1, eqv_stays hn h m _ _ (hn p a hp ha) (hn q a hq ha) this.2⟩
def tlA (M : Mch) : List Nat → Nat → Nat → Prop
  | [], _, _ => False
  | [a], p, q => a < M.asks ∧ M.ans p a ≠ M.ans q a
  | a :: b :: s, p, q => a < M.asks ∧ M.ans p a = M.ans q a ∧ tlA M (b :: s) (M.nxt p a) (M.nxt q a)
theorem tlA.not {M : Mch} : ∀ {s p q}, tlA M s p q → ¬ Eqv M s.length p q
  | [a], p, q, h, e => h.2 (e a h.1).1
  | a :: b :: s, p, q, h, e => tlA.not h.2.2 (e a h.1).2
theorem tlA.pos {M : Mch} {s p q} (h : tlA M s p q) : s ≠ [] := fun e => by subst e; exact h
theorem tlA.of {M : Mch} : ∀ {k p q}, ¬ Eqv M k p q → ∃ s, tlA M s p q ∧ s.length ≤ k
  | 0, _, _, h => absurd trivial h
  | k + 1, p, q, h => by
    obtain ⟨a, ha⟩ := Classical.not_forall.mp h
    obtain ⟨ha1, ha⟩ := Classical.not_imp.mp ha
    by_cases c : M.ans p a = M.ans q a
    · have : ¬ Eqv M k (M.nxt p a) (M.nxt q a) := fun e => ha ⟨c, e⟩
      obtain ⟨s, hs, hl⟩ := tlA.of this
      cases s with
      | nil => exact hs.elim
      | cons b s => exact ⟨a :: b :: s, ⟨ha1, c, hs⟩, by simp at hl ⊢; omega⟩
    · exact ⟨[a], ⟨ha1, c⟩, by simp⟩
def lexN : List Nat → List Nat → Prop
  | [], _ => True
  | _ :: _, [] => False
  | a :: s, b :: t => a < b ∨ a = b ∧ lexN s t
theorem lexN.anti : ∀ {s t : List Nat}, s.length = t.length → lexN s t → lexN t s → s = t
  | [], [], _, _, _ => rfl
  | [], _ :: _, h, _, _ => by cases h
  | _ :: _, [], h, _, _ => by cases h
  | a :: s, b :: t, h, h1, h2 => by
    rcases h1 with h1 | ⟨rfl, h1⟩
    · rcases h2 with h2 | ⟨e, _⟩
      · omega
      · omega
    · rcases h2 with h2 | ⟨_, h2⟩
      · omega
      · rw [lexN.anti (by simpa using h) h1 h2]
def Bst (M : Mch) (s : List Nat) (p q : Nat) : Prop := tlA M s p q ∧ ∀ t, tlA M t p q → s.length ≤ t.length ∧ (t.length = s.length → lexN s t)
theorem Bst.one {M : Mch} {s t : List Nat} {p q : Nat} (h1 : Bst M s p q) (h2 : Bst M t p q) : s = t := by
  have a := h1.2 t h2.1
  have b := h2.2 s h1.1
  have e : s.length = t.length := by omega
  exact lexN.anti e (a.2 e.symm) (b.2 e)
theorem Bst.last {M : Mch} {p q a : Nat} (ha : a < M.asks) (hu : M.ans p a ≠ M.ans q a) (hf : ∀ b, b < a → M.ans p b = M.ans q b) : Bst M [a] p q := ⟨⟨ha, hu⟩, fun t ht => by
  cases t with
  | nil => exact ht.elim
  | cons b t =>
    refine ⟨by simp, fun e => ?_⟩
    have et : t = [] := by simpa using e
    subst et
    have hb : M.ans p b ≠ M.ans q b := ht.2
    rcases Nat.lt_trichotomy a b with c | c | c
    · exact .inl c
    · exact .inr ⟨c, trivial⟩
    · exact absurd (hf b c) hb⟩
theorem Bst.cons {M : Mch} {p q a : Nat} {s : List Nat} (ha : a < M.asks) (he : Eqv M s.length p q) (hs : Bst M s (M.nxt p a) (M.nxt q a)) (hf : ∀ b, b < a → Eqv M s.length (M.nxt p b) (M.nxt q b)) : Bst M (a :: s) p q := by
  have hne := hs.1.pos
  obtain ⟨c, s', rfl⟩ := List.exists_cons_of_ne_nil hne
  have ans : ∀ b, b < M.asks → M.ans p b = M.ans q b := fun b hb => by
    have he : Eqv M (s'.length + 1) p q := he
    exact (he b hb).1
  refine ⟨⟨ha, ans a ha, hs.1⟩, fun t ht => ?_⟩
  have hl : (a :: c :: s').length ≤ t.length := by
    refine Nat.le_of_not_lt fun z => ?_
    have hn := ht.not
    have hz : t.length ≤ (c :: s').length := by simp at z ⊢; omega
    obtain ⟨d, hd⟩ := Nat.exists_eq_add_of_le hz
    rw [hd] at he
    exact hn he.mono
  refine ⟨hl, fun e => ?_⟩
  cases t with
  | nil => cases e
  | cons b t =>
    cases t with
    | nil => simp at e
    | cons b2 t =>
      have hn := ht.2.2
      have el : (b2 :: t).length = (c :: s').length := by simpa using e
      rcases Nat.lt_trichotomy a b with g | g | g
      · exact .inl g
      · subst g
        exact .inr ⟨rfl, (hs.2 _ hn).2 el⟩
      · have := hf b g
        rw [← el] at this
        exact absurd this hn.not
end L2
set_option Elab.async false
set_option linter.all false
set_option maxRecDepth 100000
set_option maxHeartbeats 1000000
namespace L2
open PySem
def runM (M : Mch) : List Nat → Nat → Nat
  | [], p => p
  | a :: s, p => runM M s (M.nxt p a)
theorem runM_app (M : Mch) : ∀ (s t : List Nat) (p : Nat), runM M (s ++ t) p = runM M t (runM M s p)
  | [], _, _ => rfl
  | _ :: s, t, _ => runM_app M s t _
def eqr (M : Mch) : List Nat → Nat → Nat → Prop
  | [], _, _ => True
  | a :: s, p, q => a < M.asks ∧ M.ans p a = M.ans q a ∧ eqr M s (M.nxt p a) (M.nxt q a)
theorem eqr_snoc {M : Mch} {b : Nat} : ∀ {s : List Nat} {p q : Nat}, eqr M (s ++ [b]) p q ↔ eqr M s p q ∧ b < M.asks ∧ M.ans (runM M s p) b = M.ans (runM M s q) b
  | [], p, q => ⟨fun h => ⟨trivial, h.1, h.2.1⟩, fun h => ⟨h.2.1, h.2.2, trivial⟩⟩
  | a :: s, p, q => by
    have ih := eqr_snoc (M := M) (b := b) (s := s) (p := M.nxt p a) (q := M.nxt q a)
    exact ⟨fun h => ⟨⟨h.1, h.2.1, (ih.mp h.2.2).1⟩, (ih.mp h.2.2).2⟩, fun h => ⟨h.1.1, h.1.2.1, ih.mpr ⟨h.1.2.2, h.2⟩⟩⟩
theorem tlA_snoc {M : Mch} {b : Nat} : ∀ {s : List Nat} {p q : Nat}, tlA M (s ++ [b]) p q ↔ eqr M s p q ∧ b < M.asks ∧ M.ans (runM M s p) b ≠ M.ans (runM M s q) b
  | [], p, q => ⟨fun h => ⟨trivial, h.1, h.2⟩, fun h => ⟨h.2.1, h.2.2⟩⟩
  | a :: s, p, q => by
    have ih := tlA_snoc (M := M) (b := b) (s := s) (p := M.nxt p a) (q := M.nxt q a)
    have e : ∀ P : List Nat → Prop, (∀ c t, s ++ [b] = c :: t → P (c :: t)) → P (s ++ [b]) := fun P h => by
      cases e : s ++ [b] with
      | nil => simp at e
      | cons c t => exact h c t e
    obtain ⟨c, t, ec⟩ : ∃ c t, s ++ [b] = c :: t := e (fun l => ∃ c t, l = c :: t) fun c t _ => ⟨c, t, rfl⟩
    rw [List.cons_append, ec]
    rw [ec] at ih
    exact ⟨fun h => ⟨⟨h.1, h.2.1, (ih.mp h.2.2).1⟩, (ih.mp h.2.2).2⟩, fun h => ⟨h.1.1, h.1.2.1, ih.mpr ⟨h.1.2.2, h.2⟩⟩⟩
theorem lexN.refl : ∀ s, lexN s s
  | [] => trivial
  | _ :: s => .inr ⟨rfl, lexN.refl s⟩
theorem lexN.trans : ∀ {s t u : List Nat}, lexN s t → lexN t u → lexN s u
  | [], _, _, _, _ => by unfold lexN; trivial
  | _ :: _, [], _, h, _ => h.elim
  | _ :: _, _ :: _, [], _, h => h.elim
  | a :: s, b :: t, c :: u, h1, h2 => by
    rcases h1 with h1 | ⟨rfl, h1⟩
    · rcases h2 with h2 | ⟨rfl, _⟩
      · exact .inl (by omega)
      · exact .inl h1
    · rcases h2 with h2 | ⟨rfl, h2⟩
      · exact .inl h2
      · exact .inr ⟨rfl, h1.trans h2⟩
theorem lexN.snoc : ∀ {s t : List Nat} {a b : Nat}, s.length = t.length → lexN s t → (s = t → a ≤ b) → lexN (s ++ [a]) (t ++ [b])
  | [], [], a, b, _, _, h => by
    have := h rfl
    rcases Nat.lt_or_ge a b with c | c
    · exact .inl c
    · exact .inr ⟨by omega, trivial⟩
  | [], _ :: _, _, _, h, _, _ => by cases h
  | _ :: _, [], _, _, h, _, _ => by cases h
  | x :: s, y :: t, a, b, h, h1, h2 => by
    rcases h1 with h1 | ⟨rfl, h1⟩
    · exact .inl h1
    · exact .inr ⟨rfl, h1.snoc (by simpa using h) fun e => h2 (by rw [e])⟩
def slx (s t : List Nat) : Prop := s.length < t.length ∨ s.length = t.length ∧ lexN s t
theorem slx.refl (s : List Nat) : slx s s := .inr ⟨rfl, lexN.refl s⟩
theorem slx.trans {s t u : List Nat} (h1 : slx s t) (h2 : slx t u) : slx s u := by
  rcases h1 with h1 | ⟨e1, h1⟩ <;> rcases h2 with h2 | ⟨e2, h2⟩
  · exact .inl (by omega)
  · exact .inl (by omega)
  · exact .inl (by omega)
  · exact .inr ⟨by omega, h1.trans h2⟩
theorem slx.snoc {s t : List Nat} {a b : Nat} (h : slx s t) (hab : s = t → a ≤ b) : slx (s ++ [a]) (t ++ [b]) := by
  rcases h with h | ⟨e, h⟩
  · exact .inl (by simp; omega)
  · exact .inr ⟨by simp [e], h.snoc e hab⟩
theorem slx.len {s t : List Nat} (h : slx s t) : s.length ≤ t.length := by rcases h with h | h <;> omega
abbrev Pr := (Nat × Nat) × List Nat
structure Bfs (M : Mch) (p q : Nat) (L : List Pr) (k a : Nat) : Prop where
  first : L[0]? = some ((p, q), [])
  up : ∀ (i j : Nat) x y, L[i]? = some x → L[j]? = some y → i < j → slx x.2 y.2 ∧ x.2 ≠ y.2
  par : ∀ (j : Nat) y, 0 < j → L[j]? = some y → ∃ (i : Nat) (x : Pr) (b : Nat), L[i]? = some x ∧ (i < k ∨ i = k ∧ b < a) ∧ y.2 = x.2 ++ [b]
  good : ∀ (i : Nat) x, L[i]? = some x → eqr M x.2 p q ∧ x.1 = (runM M x.2 p, runM M x.2 q)
  done : ∀ (i : Nat) x b, L[i]? = some x → b < M.asks → (i < k ∨ i = k ∧ b < a) → M.ans x.1.1 b = M.ans x.1.2 b ∧ ∃ (j : Nat) (y : Pr), L[j]? = some y ∧ y.1 = (M.nxt x.1.1 b, M.nxt x.1.2 b) ∧ slx y.2 (x.2 ++ [b])
theorem Bfs.mono {M : Mch} {p q k a : Nat} {L : List Pr} (B : Bfs M p q L k a) (i j : Nat) (x y : Pr) (h1 : L[i]? = some x) (h2 : L[j]? = some y) (h : i ≤ j) : slx x.2 y.2 := by
  rcases Nat.lt_or_ge i j with c | c
  · exact (B.up i j x y h1 h2 c).1
  · have : i = j := by omega
    subst this
    rw [h1] at h2; cases h2
    exact slx.refl _
theorem snoc_inj {s t : List Nat} {a b : Nat} (h : s ++ [a] = t ++ [b]) : s = t ∧ a = b := by
  have := List.append_inj' h rfl
  exact ⟨this.1, by simpa using this.2⟩
theorem Bfs.below {M : Mch} {p q k a c : Nat} {L : List Pr} (B : Bfs M p q L k a) {j : Nat} {x y : Pr} (hx : L[k]? = some x) (hy : L[j]? = some y) (hc : a ≤ c) : slx y.2 (x.2 ++ [c]) ∧ y.2 ≠ x.2 ++ [c] := by
  rcases Nat.eq_zero_or_pos j with e | e
  · subst e
    rw [B.first] at hy; cases hy
    exact ⟨.inl (by simp), fun z => by simp at z⟩
  · obtain ⟨i, xi, b, h1, h2, h3⟩ := B.par j y e hy
    rw [h3]
    rcases h2 with h2 | ⟨rfl, h2⟩
    · obtain ⟨u1, u2⟩ := B.up i k xi x h1 hx h2
      exact ⟨u1.snoc fun z => absurd z u2, fun z => u2 (snoc_inj z).1⟩
    · rw [hx] at h1; cases h1
      exact ⟨(slx.refl _).snoc fun _ => by omega, fun z => by have := (snoc_inj z).2; omega⟩
theorem Bfs.start {M : Mch} {p q : Nat} : Bfs M p q [((p, q), [])] 0 0 := by
  have one : ∀ (i : Nat) (x : Pr), ([((p, q), [])] : List Pr)[i]? = some x → i = 0 ∧ x = ((p, q), []) := fun i x h => by
    match i, h with
    | 0, h => cases h; exact ⟨rfl, rfl⟩
    | i + 1, h => cases h
  refine ⟨rfl, fun i j x y h1 h2 h => ?_, fun j y h0 h => ?_, fun i x h => ?_, fun i x b h hb c => ?_⟩
  · have := (one j y h2).1; omega
  · have := (one j y h).1; omega
  · rw [(one i x h).2]; exact ⟨trivial, rfl⟩
  · have := (one i x h).1; omega
theorem Bfs.hit {M : Mch} {p q k a j : Nat} {L : List Pr} {x y : Pr} (B : Bfs M p q L k a) (hx : L[k]? = some x) (he : M.ans x.1.1 a = M.ans x.1.2 a) (hy : L[j]? = some y) (hn : y.1 = (M.nxt x.1.1 a, M.nxt x.1.2 a)) : Bfs M p q L k (a + 1) := ⟨B.first, B.up, fun j y h0 h => by
    obtain ⟨i, x, b, h1, h2, h3⟩ := B.par j y h0 h
    exact ⟨i, x, b, h1, by omega, h3⟩, B.good, fun i u b h hb c => by
    by_cases c2 : i < k ∨ i = k ∧ b < a
    · exact B.done i u b h hb c2
    · have ei : i = k := by omega
      have eb : b = a := by omega
      subst ei; subst eb
      rw [hx] at h; cases h
      exact ⟨he, j, y, hy, hn, (B.below hx hy (Nat.le_refl _)).1⟩⟩
theorem Bfs.push {M : Mch} {p q k a : Nat} {L : List Pr} {x : Pr} (B : Bfs M p q L k a) (hx : L[k]? = some x) (ha : a < M.asks) (he : M.ans x.1.1 a = M.ans x.1.2 a) : Bfs M p q (L ++ [((M.nxt x.1.1 a, M.nxt x.1.2 a), x.2 ++ [a])]) k (a + 1) := by
  have old : ∀ {i : Nat} {y : Pr}, L[i]? = some y → (L ++ [((M.nxt x.1.1 a, M.nxt x.1.2 a), x.2 ++ [a])])[i]? = some y := fun {i y} h => by
    rw [List.getElem?_append_left (List.getElem?_eq_some_iff.mp h).1]; exact h
  have two : ∀ {i : Nat} {y : Pr}, (L ++ [((M.nxt x.1.1 a, M.nxt x.1.2 a), x.2 ++ [a])])[i]? = some y → L[i]? = some y ∨ i = L.length ∧ y = ((M.nxt x.1.1 a, M.nxt x.1.2 a), x.2 ++ [a]) := fun {i y} h => by
    rcases Nat.lt_or_ge i L.length with c | c
    · rw [List.getElem?_append_left c] at h; exact .inl h
    · rw [List.getElem?_append_right c] at h
      have hi : i - L.length = 0 := by have := (List.getElem?_eq_some_iff.mp h).1; simp at this; omega
      rw [hi] at h
      cases h
      exact .inr ⟨by omega, rfl⟩
  have hk := (List.getElem?_eq_some_iff.mp hx).1
  obtain ⟨g1, g2⟩ := B.good k x hx
  refine ⟨old B.first, fun i j u y h1 h2 h => ?_, fun j y h0 h => ?_, fun i u h => ?_, fun i u b h hb c => ?_⟩
  · rcases two h1 with f1 | ⟨e1, f1⟩
    · rcases two h2 with f2 | ⟨e2, f2⟩
      · exact B.up i j u y f1 f2 h
      · rw [f2]; exact B.below hx f1 (Nat.le_refl _)
    · rcases two h2 with f2 | ⟨e2, f2⟩
      · have := (List.getElem?_eq_some_iff.mp f2).1; omega
      · omega
  · rcases two h with f | ⟨e, f⟩
    · obtain ⟨i, u, b, h1, h2, h3⟩ := B.par j y h0 f
      exact ⟨i, u, b, old h1, by omega, h3⟩
    · rw [f]; exact ⟨k, x, a, old hx, by omega, rfl⟩
  · rcases two h with f | ⟨e, f⟩
    · exact B.good i u f
    · rw [f]
      refine ⟨eqr_snoc.mpr ⟨g1, ha, ?_⟩, ?_⟩
      · rw [g2] at he; exact he
      · rw [runM_app, runM_app, g2]; rfl
  · rcases two h with f | ⟨e, f⟩
    · by_cases c2 : i < k ∨ i = k ∧ b < a
      · obtain ⟨d1, j, y, d2, d3, d4⟩ := B.done i u b f hb c2
        exact ⟨d1, j, y, old d2, d3, d4⟩
      · have ei : i = k := by omega
        have eb : b = a := by omega
        subst ei; subst eb
        rw [hx] at f; cases f
        exact ⟨he, L.length, _, by rw [List.getElem?_append_right (Nat.le_refl _), Nat.sub_self]; rfl, rfl, slx.refl _⟩
    · omega
theorem Bfs.turn {M : Mch} {p q k : Nat} {L : List Pr} (B : Bfs M p q L k M.asks) : Bfs M p q L (k + 1) 0 := ⟨B.first, B.up, fun j y h0 h => by
    obtain ⟨i, x, b, h1, h2, h3⟩ := B.par j y h0 h
    exact ⟨i, x, b, h1, by omega, h3⟩, B.good, fun i x b h hb c => B.done i x b h hb (by omega)⟩
theorem snoc_ind {P : List Nat → Prop} (h0 : P []) (h1 : ∀ u b, P u → P (u ++ [b])) (u : List Nat) : P u := by
  have : ∀ (n : Nat) (u : List Nat), u.length = n → P u := fun n => by
    induction n with
    | zero => exact fun u hu => by rw [List.eq_nil_of_length_eq_zero hu]; exact h0
    | succ n ih =>
      intro u hu
      have hne : u ≠ [] := fun e => by subst e; cases hu
      rw [(List.dropLast_concat_getLast hne).symm]
      exact h1 _ _ (ih _ (by rw [List.length_dropLast]; omega))
  exact this u.length u rfl
theorem Bfs.found {M : Mch} {p q k a : Nat} {L : List Pr} (B : Bfs M p q L k a) (u : List Nat) : eqr M u p q → (∃ (j : Nat) (y : Pr), L[j]? = some y ∧ y.1 = (runM M u p, runM M u q) ∧ slx y.2 u) ∨ ∃ (i : Nat) (x : Pr) (u1 : List Nat), L[i]? = some x ∧ k ≤ i ∧ slx x.2 u1 ∧ u1.length < u.length := by
  refine snoc_ind (P := fun u => eqr M u p q → (∃ (j : Nat) (y : Pr), L[j]? = some y ∧ y.1 = (runM M u p, runM M u q) ∧ slx y.2 u) ∨ ∃ (i : Nat) (x : Pr) (u1 : List Nat), L[i]? = some x ∧ k ≤ i ∧ slx x.2 u1 ∧ u1.length < u.length) (fun _ => .inl ⟨0, _, B.first, rfl, slx.refl _⟩) (fun u b ih h => ?_) u
  obtain ⟨h1, hb, _⟩ := eqr_snoc.mp h
  rcases ih h1 with ⟨j, y, e1, e2, e3⟩ | ⟨i, x, u1, e1, e2, e3, e4⟩
  · by_cases c : j < k ∨ j = k ∧ b < a
    · obtain ⟨_, j2, y2, f1, f2, f3⟩ := B.done j y b e1 hb c
      refine .inl ⟨j2, y2, f1, ?_, f3.trans (e3.snoc fun _ => Nat.le_refl _)⟩
      rw [f2, e2, runM_app, runM_app]; rfl
    · exact .inr ⟨j, y, u, e1, by omega, e3, by simp⟩
  · exact .inr ⟨i, x, u1, e1, e2, e3, by simp; omega⟩
theorem Bfs.best {M : Mch} {p q k a : Nat} {L : List Pr} (B : Bfs M p q L k a) {x : Pr} (hx : L[k]? = some x) (ha : a < M.asks) (hu : M.ans x.1.1 a ≠ M.ans x.1.2 a) : Bst M (x.2 ++ [a]) p q := by
  obtain ⟨g1, g2⟩ := B.good k x hx
  have hu' : M.ans (runM M x.2 p) a ≠ M.ans (runM M x.2 q) a := by rw [g2] at hu; exact hu
  refine ⟨tlA_snoc.mpr ⟨g1, ha, hu'⟩, fun t ht => ?_⟩
  have hne := ht.pos
  have et := (List.dropLast_concat_getLast hne).symm
  generalize t.dropLast = u at et
  generalize t.getLast hne = b at et
  subst et
  obtain ⟨h1, hb, hd⟩ := tlA_snoc.mp ht
  have key : slx (x.2 ++ [a]) (u ++ [b]) := by
    rcases B.found u h1 with ⟨j, y, e1, e2, e3⟩ | ⟨i, y, u1, e1, e2, e3, e4⟩
    · have hny : M.ans y.1.1 b ≠ M.ans y.1.2 b := by rw [e2]; exact hd
      have c : ¬ (j < k ∨ j = k ∧ b < a) := fun c => hny (B.done j y b e1 hb c).1
      have hkj : slx x.2 y.2 := B.mono k j x y hx e1 (by omega)
      refine (hkj.trans e3).snoc fun e => ?_
      refine Nat.le_of_not_lt fun z => ?_
      have hxu : x.1 = y.1 := by rw [g2, e2, e]
      exact hny (by rw [← hxu]; exact (B.done k x b hx hb (.inr ⟨rfl, z⟩)).1)
    · have := (B.mono k i x y hx e1 e2).len
      have := e3.len
      exact .inl (by simp; omega)
  refine ⟨key.len, fun e => ?_⟩
  rcases key with h | h
  · omega
  · exact h.2
theorem Bfs.none {M : Mch} {p q k a : Nat} {L : List Pr} (B : Bfs M p q L k a) (hk : L.length ≤ k) : ∀ t, ¬ tlA M t p q := fun t ht => by
  have hne := ht.pos
  have et := (List.dropLast_concat_getLast hne).symm
  generalize t.dropLast = u at et
  generalize t.getLast hne = b at et
  subst et
  obtain ⟨h1, hb, hd⟩ := tlA_snoc.mp ht
  rcases B.found u h1 with ⟨j, y, e1, e2, e3⟩ | ⟨i, y, u1, e1, e2, e3, e4⟩
  · have hj := (List.getElem?_eq_some_iff.mp e1).1
    have := (B.done j y b e1 hb (.inl (by omega))).1
    rw [e2] at this
    exact hd this
  · have hi := (List.getElem?_eq_some_iff.mp e1).1
    omega
end L2
set_option Elab.async false
set_option linter.all false
set_option maxRecDepth 100000
set_option maxHeartbeats 1000000
namespace L2
open PySem
def Num (n m : Nat) (t : Nat → Nat) : Prop := (∀ p, p < n → t p ≤ m) ∧ ∀ c, c ≤ m → ∃ p, p < n ∧ t p = c
theorem same_split {n m : Nat} {t t' : Nat → Nat} (h : Num n m t) (h' : Num n m t') (fine : ∀ p q, p < n → q < n → t' p = t' q → t p = t q) {p q : Nat} (hp : p < n) (hq : q < n) (e : t p = t q) : t' p = t' q := Classical.byContradiction fun ne => by
  have rep : ∀ c, ∃ r, c ≤ m → r < n ∧ t' r = c := fun c => by
    by_cases hc : c ≤ m
    · obtain ⟨r, h1, h2⟩ := h'.2 c hc
      exact ⟨r, fun _ => ⟨h1, h2⟩⟩
    · exact ⟨0, fun z => absurd z hc⟩
  let g : Nat → Nat := fun c => t (rep c).choose
  have hg : ∀ r, r < n → g (t' r) = t r := fun r hr => by
    have := (rep (t' r)).choose_spec (h'.1 r hr)
    exact fine _ _ this.1 hr this.2
  have hnd : (List.range (m + 1)).Nodup := List.nodup_range
  have hsub : ∀ c ∈ List.range (m + 1), c ∈ ((List.range (m + 1)).erase (t' q)).map g := fun c hc => by
    obtain ⟨r, hr, er⟩ := h.2 c (by have := List.mem_range.mp hc; omega)
    by_cases c2 : t' r = t' q
    · refine List.mem_map.mpr ⟨t' p, (List.mem_erase_of_ne ne).mpr (List.mem_range.mpr (by have := h'.1 p hp; omega)), ?_⟩
      rw [hg p hp, e, ← er]
      exact (fine r q hr hq c2).symm
    · exact List.mem_map.mpr ⟨t' r, (List.mem_erase_of_ne c2).mpr (List.mem_range.mpr (by have := h'.1 r hr; omega)), by rw [hg r hr, er]⟩
  have := nodup_subA _ _ hnd hsub
  rw [List.length_map, List.length_erase_of_mem (List.mem_range.mpr (by have := h'.1 q hq; omega)), List.length_range] at this
  omega
def TbE (M : Mch) (n k : Nat) (t : Nat → Nat) : Prop := ∀ p q, p < n → q < n → (t p = t q ↔ Eqv M k p q)
theorem TbE.next {M : Mch} {n k : Nat} {t t' : Nat → Nat} (hn : ∀ p a, p < n → a < M.asks → M.nxt p a < n) (h : TbE M n k t) (h' : ∀ p q, p < n → q < n → (t' p = t' q ↔ ∀ a, a < M.asks → M.ans p a = M.ans q a ∧ t (M.nxt p a) = t (M.nxt q a))) : TbE M n (k + 1) t' := fun p q hp hq => by
  rw [h' p q hp hq]
  exact ⟨fun g a ha => ⟨(g a ha).1, (h _ _ (hn p a hp ha) (hn q a hq ha)).mp (g a ha).2⟩, fun g a ha => ⟨(g a ha).1, (h _ _ (hn p a hp ha) (hn q a hq ha)).mpr (g a ha).2⟩⟩
theorem TbE.last {M : Mch} {n k m : Nat} {t t' : Nat → Nat} (hn : ∀ p a, p < n → a < M.asks → M.nxt p a < n) (h : TbE M n k t) (h' : TbE M n (k + 1) t') (n1 : Num n m t) (n2 : Num n m t') {p q : Nat} (hp : p < n) (hq : q < n) (e : t p = t q) : ∀ s, ¬ tlA M s p q := fun s hs => by
  have st : ∀ p q, p < n → q < n → Eqv M k p q → Eqv M (k + 1) p q := fun p q hp hq he => (h' p q hp hq).mp (same_split n1 n2 (fun p q hp hq e => (h p q hp hq).mpr ((h' p q hp hq).mp e).less) hp hq ((h p q hp hq).mpr he))
  have hk := (h p q hp hq).mp e
  have := eqv_stays hn st s.length p q hp hq hk
  rw [Nat.add_comm] at this
  exact hs.not this.mono
end L2
set_option Elab.async false
set_option linter.all false
set_option maxRecDepth 100000
set_option maxHeartbeats 1000000
namespace L2
open PySem PySem.Spec PyProof.Rows
section
variable {prog : Program} {w : World} {K : Type} [DecidableEq K] {knd : KeyKind prog w K} {A : Around} {E : Value → Shared → Prop} {s : Shared}
inductive ItemsT (knd : KeyKind prog w K) (h : Heap) : List (List K) → List Value → Prop
  | nil : ItemsT knd h [] []
  | cons {k : List K} {a : Addr} {ks : List (List K)} {vs : List Value} : IsTupleKey knd h k a → ItemsT knd h ks vs → ItemsT knd h (k :: ks) (.ref a :: vs)
def IsTT (knd : KeyKind prog w K) (h : Heap) (ks : List (List K)) (a : Addr) : Prop := ∃ o items n, h.get? a = some o ∧ o.cls = .type "tuple" ∧ o.data = .seq items n ∧ ItemsT knd h ks items.toList
theorem ItemsT.inj {h : Heap} {x y : List (List K)} {vs : List Value} (hx : ItemsT knd h x vs) (hy : ItemsT knd h y vs) : x = y := by
  induction hx generalizing y with
  | nil => cases hy; rfl
  | cons h1 _ ih =>
    cases hy with
    | cons h2 t2 => rw [h1.inj h2, ih t2]
theorem IsTT.inj {h : Heap} {a : Addr} {x y : List (List K)} (hx : IsTT knd h x a) (hy : IsTT knd h y a) : x = y := by
  obtain ⟨o, items, n, ho, _, hd, hi⟩ := hx
  obtain ⟨o', items', n', ho', _, hd', hi'⟩ := hy
  obtain rfl : o = o' := Option.some.inj (ho.symm.trans ho')
  rw [hd] at hd'
  injection hd' with h1 _
  subst h1
  exact hi.inj hi'
theorem ItemsT.keeps {h h' : Heap} {d : Addr} {o : Obj} {es ep} {x : List (List K)} {vs : List Value} (hx : ItemsT knd h x vs) (ho : h.get? d = some o) (hd : o.data = .dict es ep) (hs : Heap.SameBut d h h') : ItemsT knd h' x vs := by
  induction hx with
  | nil => exact .nil
  | cons h1 _ ih => exact .cons (h1.keeps ho hd hs) ih
theorem IsTT.typeIs {ks : List (List K)} {a : Addr} (x : IsTT knd s.heap ks a) : s.TypeIs (.ref a) "tuple" := let ⟨o, _, _, ho, hc, _⟩ := x; ⟨o, ho, hc⟩
theorem IsTT.keeps {h h' : Heap} {ks : List (List K)} {a d : Addr} {o : Obj} {es ep} (x : IsTT knd h ks a) (ho : h.get? d = some o) (hd : o.data = .dict es ep) (hs : Heap.SameBut d h h') : IsTT knd h' ks a := by
  obtain ⟨o', items, n, ho', hc, hd', hi⟩ := x
  have hne : a ≠ d := by
    rintro rfl
    obtain rfl : o' = o := Option.some.inj (ho'.symm.trans ho)
    rw [hd] at hd'; exact nomatch hd'
  exact ⟨o', items, n, (hs.2 a hne).trans ho', hc, hd', hi.keeps ho hd hs⟩
def ttHash (knd : KeyKind prog w K) (ks : List (List K)) : Int := reduceHash (Builtin.Tuple.tupleHashOf (ks.map (tupleKeyHash knd)))
def ttDraws : List (List K) → Nat
  | [] => 1
  | k :: ks => (k.length + 1) + ttDraws ks
theorem wp_hash_tt {ks : List (List K)} {a : Addr} {Q : Int → Shared → Prop} (hu : A.units + 1 < cLine) (hk : IsTT knd s.heap ks a) (h : Q (ttHash knd ks) { s with toks := s.toks + ttDraws ks }) :
    wpAny (model prog w) A (pyHash (.ref a)) Q E s := by
  have hT := hk.typeIs
  obtain ⟨o, items, n, ho, _, hd, hi⟩ := hk
  unfold pyHash
  first | unfold pyHashByItsType | skip
  first | refine wpAny_bind (wpAny_cRoomFor_or (.inr (by omega)) ?_) | skip
  refine wpAny_bind (wpAny_specialOf hT F.slot_tuple_hash.lookup ?_)
  show wpAny _ _ (if (some (Value.builtin "tuple.__hash__") == some Value.none) = true then _ else _) Q E s
  rw [if_neg (by rw [beq_builtin_none]; exact Bool.false_ne_true)]
  refine wpAny_bind (wpAny_specialOf hT F.slot_tuple_hash.lookup ?_)
  show wpAny _ _ (callSpecialIfBoundUnlessNone? (.ref a) "__hash__" _ >>= _) Q E s
  refine wpAny_bind (wpAny_callSpecialIfBoundUnlessNone?_slot hT F.slot_tuple_hash (wpAny_call_entry F.slot_tuple_hash hT F.entry_tuple_hash ?_ (F.args_tuple_hash_1 _)))
  show wpAny _ _ (Builtin.Tuple.tupleItemsOf (.ref a) >>= _) _ _ s
  refine wpAny_bind (wpAny_tupleItemsOf ho hd ?_)
  refine wpAny_bind ?_
  rw [← Array.forIn_toList]
  refine wpAny_forIn_list _
    (fun rest (b : Array Int) s' => ∃ done left t, ks = done ++ left ∧ ItemsT knd s.heap left rest ∧ b.toList = done.map (tupleKeyHash knd) ∧ t + ttDraws left = s.toks + ttDraws ks ∧ s' = { s with toks := t })
    _ ?_ ?_ _ _ ⟨[], ks, s.toks, rfl, hi, rfl, rfl, rfl⟩
  · rintro x rest b s' ⟨done, left, t, hks, hl, hb, ht, rfl⟩
    cases hl with
    | @cons k c ks' _ h1 hl' =>
      refine wpAny_bind (wpAny_pyHash_tuple (knd := knd) (ks := k) (by first | exact hu | (show A.units + 1 < cLine; omega) | (show A.units < cLine; omega)) (s := { s with toks := t }) h1 ?_)
      have e : t + (k.length + 1) + ttDraws ks' = s.toks + ttDraws ks := by rw [← ht]; show _ = t + ((k.length + 1) + ttDraws ks'); omega
      first
        | exact wpAny_pure ⟨done ++ [k], ks', t + (k.length + 1), by simp [hks], hl', by simp [hb], e, rfl⟩
        | exact wpAny_bind (wpAny_pure (wpAny_pure ⟨done ++ [k], ks', t + (k.length + 1), by simp [hks], hl', by simp [hb], e, rfl⟩))
  · rintro b s' ⟨done, left, t, hks, hl, hb, ht, rfl⟩
    cases hl
    rw [List.append_nil] at hks
    subst hks
    have e : t + 1 = s.toks + ttDraws ks := ht
    rw [← e] at h
    show wpAny _ _ (retInt (Builtin.Tuple.tupleHashOf b.toList)) _ _ _
    rw [hb]
    refine wpAny_ret_mkInt ?_
    show wpAny _ _ (if (decide (-(2 : Int) ^ 63 ≤ Builtin.Tuple.tupleHashOf (ks.map (tupleKeyHash knd))) && decide (Builtin.Tuple.tupleHashOf (ks.map (tupleKeyHash knd)) < 2 ^ 63)) = true then _ else _) Q E _
    unfold ttHash reduceHash at h
    by_cases hr : (decide (-(2 : Int) ^ 63 ≤ Builtin.Tuple.tupleHashOf (ks.map (tupleKeyHash knd))) && decide (Builtin.Tuple.tupleHashOf (ks.map (tupleKeyHash knd)) < 2 ^ 63)) = true
    · rw [if_pos hr]
      rw [if_pos hr] at h
      exact wpAny_pure (by simpa [Nat.add_assoc] using h)
    · rw [if_neg hr]
      rw [if_neg hr] at h
      exact wpAny_bind (wpAny_rule (wpAny_pure (by simpa [Nat.add_assoc] using h)))
theorem tt_eq_tree {x y : List (List K)} {a b : Addr} {P : Fin → Shared → Prop} (hu : A.units < cLine) (hx : IsTT knd s.heap x a) (hy : IsTT knd s.heap y b) (h : P (.done (.ret (.bool (decide (x = y))))) s) :
    wpAny (model prog w) A (Builtin.«tuple.__eq__» ⟨[.ref a, .ref b], []⟩) P E s := by
  have hTb := hy.typeIs
  obtain ⟨oa, xs, na, hoa, _, hda, hia⟩ := hx
  obtain ⟨ob, ys, nb, hob, _, hdb, hib⟩ := hy
  show wpAny _ _ (isInstance (.ref b) (.type "tuple") >>= _) _ _ s
  refine wpAny_bind (wpAny_isInstance hTb isSubtype_tuple_tuple ?_)
  simp only [Bool.not_true, Bool.false_eq_true, if_false]
  refine wpAny_bind (wpAny_tupleItemsOf hoa hda ?_)
  refine wpAny_bind (wpAny_tupleItemsOf hob hdb ?_)
  refine wpAny_bind ?_
  refine wpAny_forIn_list _
    (fun rest r s' => r.1 = none ∧ s' = s ∧ ∃ x' y' xs' ys', rest = List.zip xs' ys' ∧ ItemsT knd s.heap x' xs' ∧ ItemsT knd s.heap y' ys' ∧ decide (x' = y') = decide (x = y) ∧ (xs'.length == ys'.length) = (xs.size == ys.size))
    _ ?_ ?_ _ _ ⟨rfl, rfl, x, y, xs.toList, ys.toList, rfl, hia, hib, rfl, by simp⟩
  · rintro ⟨u, v⟩ rest r s' ⟨hr, rfl, x', y', xs', ys', hz, hx', hy', hdec, hlen⟩
    cases hx' with
    | nil => simp at hz
    | @cons k1 u' x'' xs'' h1 hx'' =>
      cases hy' with
      | nil => simp at hz
      | @cons k2 v' y'' ys'' h2 hy'' =>
        simp only [List.zip_cons_cons, List.cons.injEq, Prod.mk.injEq] at hz
        obtain ⟨⟨rfl, rfl⟩, rfl⟩ := hz
        refine wpAny_bind (wpAny_eqBool_tuple (knd := knd) (x := k1) (y := k2) hu h1 h2 ?_)
        by_cases hk : k1 = k2
        · subst hk
          rw [decide_eq_true rfl]
          simp only [Bool.not_true, Bool.false_eq_true, if_false]
          refine wpAny_pure ⟨rfl, rfl, x'', y'', xs'', ys'', rfl, hx'', hy'', ?_, by simpa using hlen⟩
          rw [← hdec]
          by_cases hxy : x'' = y''
          · simp [hxy]
          · simp [hxy]
        · rw [decide_eq_false hk]
          simp only [Bool.not_false, if_true]
          have hf : decide (x = y) = false := by rw [← hdec]; simp [hk]
          rw [hf] at h
          exact wpAny_bind (wpAny_pure (wpAny_pure (wpAny_pure h)))
  · rintro ⟨r1, r2⟩ s' ⟨hr, rfl, x', y', xs', ys', hz, hx', hy', hdec, hlen⟩
    simp only at hr
    subst hr
    refine wpAny_pure ?_
    have hfin : (xs.size == ys.size) = decide (x = y) := by
      rw [← hdec, ← hlen]
      cases hx' with
      | nil =>
        cases hy' with
        | nil => simp
        | cons _ _ => simp
      | cons _ _ =>
        cases hy' with
        | nil => simp
        | cons _ _ => simp at hz
    show P (.done (.ret (.bool (xs.size == ys.size)))) s'
    rw [hfin]; exact h
theorem wp_eq_tt {x y : List (List K)} {a b : Addr} {Q : Bool → Shared → Prop} (hu : A.units + 1 < cLine) (hx : IsTT knd s.heap x a) (hy : IsTT knd s.heap y b) (h : Q (decide (x = y)) s) :
    wpAny (model prog w) A (eqBool (.ref a) (.ref b)) Q E s := by
  unfold eqBool
  try with_reducible refine wpAny_holding ?_
  show wpAny _ _ (if (Value.ref a == Value.ref b) = true then _ else _) Q E s
  by_cases hab : (Value.ref a == Value.ref b) = true
  · rw [if_pos hab]
    have e : a = b := by have := eq_of_beq hab; injection this
    subst e
    obtain rfl := hx.inj hy
    exact wpAny_bind (wpAny_rule (wpAny_pure (by simpa using h)))
  · rw [if_neg hab]
    exact wpAny_bind (wpAny_richCompare_same_room (op := .Eq) hx.typeIs hy.typeIs F.slot_tuple_eq
      (wpAny_call_entry F.slot_tuple_eq hx.typeIs F.entry_tuple_eq (tt_eq_tree (by first | exact hu | (show A.units + 1 < cLine; omega) | (show A.units < cLine; omega)) hx hy ⟨_, rfl, (fun e => nomatch e), wpAny_truthy_bool h⟩) (F.args_tuple_eq_2 _ _)) (by omega))
theorem wp_quiet_t (m : Nat) {ks : List K} {a : Addr} {Q : Bool → Shared → Prop} (hk : IsTupleKey knd s.heap ks a) (h : Q true s) : wpAny (model prog w) A (eqIsQuiet (m + 1) (.ref a)) Q E s := by
  have hT := hk.typeIs
  obtain ⟨o, items, n, ho, _, hd, hi⟩ := hk
  unfold eqIsQuiet
  refine wpAny_bind (wpAny_specialOf hT F.slot_tuple_eq.lookup ?_)
  show wpAny _ _ (isInstance (.ref a) (.type "tuple") >>= _) _ _ s
  refine wpAny_bind (wpAny_isInstance hT isSubtype_tuple_tuple ?_)
  simp only [Bool.not_true, Bool.false_eq_true, if_false]
  refine wpAny_bind (wpAny_seqItems ho hd ?_)
  refine wpAny_bind ?_
  show wpAny _ _ (forIn items _ _) _ _ s
  rw [← Array.forIn_toList]
  refine wpAny_forIn_list _ (fun rest r s' => r.1 = none ∧ s' = s ∧ ∀ v ∈ rest, carriedByValue v = true) _ ?_ ?_ _ _ ⟨rfl, rfl, hi.byValue⟩
  · rintro v rest r s' ⟨hr, rfl, hall⟩
    rw [eqIsQuiet_byValue _ (hall v List.mem_cons_self)]
    refine wpAny_bind (wpAny_pure ?_)
    simp only [Bool.not_true, Bool.false_eq_true, if_false]
    exact wpAny_pure ⟨rfl, rfl, fun u hu' => hall u (List.mem_cons_of_mem _ hu')⟩
  · rintro ⟨r1, r2⟩ s' ⟨hr, rfl, _⟩
    simp only at hr
    subst hr
    exact wpAny_pure h
theorem wp_quiet_tt {ks : List (List K)} {a : Addr} {Q : Bool → Shared → Prop} (hk : IsTT knd s.heap ks a) (h : Q true s) : wpAny (model prog w) A (eqIsQuiet 8 (.ref a)) Q E s := by
  have hT := hk.typeIs
  obtain ⟨o, items, n, ho, _, hd, hi⟩ := hk
  unfold eqIsQuiet
  refine wpAny_bind (wpAny_specialOf hT F.slot_tuple_eq.lookup ?_)
  show wpAny _ _ (isInstance (.ref a) (.type "tuple") >>= _) _ _ s
  refine wpAny_bind (wpAny_isInstance hT isSubtype_tuple_tuple ?_)
  simp only [Bool.not_true, Bool.false_eq_true, if_false]
  refine wpAny_bind (wpAny_seqItems ho hd ?_)
  refine wpAny_bind ?_
  show wpAny _ _ (forIn items _ _) _ _ s
  rw [← Array.forIn_toList]
  refine wpAny_forIn_list _ (fun rest r s' => r.1 = none ∧ s' = s ∧ ∃ left, ItemsT knd s.heap left rest) _ ?_ ?_ _ _ ⟨rfl, rfl, ks, hi⟩
  · rintro v rest r s' ⟨hr, rfl, left, hl⟩
    cases hl with
    | @cons k c ks' _ h1 hl' =>
      refine wpAny_bind (wp_quiet_t 6 h1 ?_)
      simp only [Bool.not_true, Bool.false_eq_true, if_false]
      exact wpAny_pure ⟨rfl, rfl, ks', hl'⟩
  · rintro ⟨r1, r2⟩ s' ⟨hr, rfl, _⟩
    simp only at hr
    subst hr
    exact wpAny_pure h
end
def ttKind {prog : Program} {w : World} {K : Type} [DecidableEq K] (knd : KeyKind prog w K) : HeapKind prog w (List (List K)) where
  is := IsTT knd
  hash := ttHash knd
  draws := ttDraws
  room := fun A => A.units + 1 < cLine
  inj := fun hx hy => hx.inj hy
  keeps := fun x ho hd hs => x.keeps ho hd hs
  pyHash := fun hu hk h => wp_hash_tt hu hk h
  eqBool := fun hu hx hy h => wp_eq_tt hu hx hy h
  quiet := fun hk h => wp_quiet_tt hk h
section
variable {prog : Program} {w : World} {K : Type} [DecidableEq K] {knd : HeapKind prog w K} {A : Around} {E : Value → Shared → Prop} {s : Shared}
theorem wp_setdefault_heap {d a : Addr} {xs : List (K × Addr × Value)} {k : K} {dflt : Value} {Q : Value → Shared → Prop} (hu : knd.room A) (hkey : knd.is s.heap k a) (hm : s.heap.DictOfH knd d xs)
    (h1 : ∀ p, atKey xs k = some p → Q p.2 { s with toks := s.toks + knd.draws k })
    (h2 : atKey xs k = none → ∀ h', h'.DictOfH knd d (xs ++ [(k, a, dflt)]) → Heap.SameBut d s.heap h' → Q dflt { s with heap := h', toks := s.toks + knd.draws k })
    (hsz : xs.length ≤ sizeLine) : wpAny (model prog w) A (dictSetDefault d (.ref a) dflt) Q E s := by
  obtain ⟨o, es, ep, ho, hc, hd, he, his, hn⟩ := hm
  unfold dictSetDefault
  try with_reducible refine wpAny_holding ?_
  refine wpAny_bind (knd.pyHash hu hkey ?_)
  refine wpAny_bind (wpAny_dictFind_heap (s := { s with toks := s.toks + knd.draws k }) hu hkey ho hd he his hn ?_ ?_)
  · intro hno
    have hnot : k ∉ xs.map (·.1) := not_mem_keys_of_get hno
    refine wpAny_bind (wpAny_rule ?_)
    refine wpAny_bind (wpAny_updateDictKeys (hz := by have e := size_of_entries he; omega) (s := { s with toks := s.toks + knd.draws k }) ho hd ?_)
    refine wpAny_pure (h2 (atKey_none_of_get hno) _ ⟨_, _, ep + 1, Heap.get?_update_self _ ho (Obj.isFreed_of_dict (Obj.data_mapDictKeys hd _)), hc.mapDictKeys _, Obj.data_mapDictKeys hd _, ?_, ?_, ?_⟩ (Heap.SameBut.update ..))
    · simp [he, entryOfKey]
    · intro x hx
      rcases List.mem_append.mp hx with hx | hx
      · exact knd.keeps (his x hx) ho hd (Heap.SameBut.update ..)
      · simp only [List.mem_singleton] at hx
        subst hx
        exact knd.keeps hkey ho hd (Heap.SameBut.update ..)
    · rw [List.map_append, List.nodup_append]
      refine ⟨hn, by simp, ?_⟩
      intro x hx y hy
      simp only [List.map_cons, List.map_nil, List.mem_singleton] at hy
      subst hy
      exact fun e => hnot (e ▸ hx)
  · intro j p hj
    refine wpAny_bind (wpAny_dictEntries (s := { s with toks := s.toks + knd.draws k }) ho hd ?_)
    rw [entry_at he j, hj]
    exact wpAny_bind (wpAny_rule (wpAny_pure (h1 p (atKey_of_get hn hj))))
theorem meetsH_setdefault (d a : Addr) (hd : (d == sysModules) = false) (dflt : Value) :
    MeetsIn prog w (Builtin.«dict.setdefault» ⟨[.ref d, .ref a, dflt], []⟩) (fun A R s => knd.room A.in1 ∧ ∃ k xs, knd.is s.heap k a ∧ s.heap.DictOfH knd d xs ∧ xs.length ≤ sizeLine ∧
      (∀ p, atKey xs k = some p → R (.ok (.ret p.2)) { s with toks := s.toks + knd.draws k }) ∧
      (atKey xs k = none → ∀ h', h'.DictOfH knd d (xs ++ [(k, a, dflt)]) → Heap.SameBut d s.heap h' → R (.ok (.ret dflt)) { s with heap := h', toks := s.toks + knd.draws k })) :=
  .of_wp fun A R s ⟨hu, k, xs, hkey, hm, hz, h1, h2⟩ => by
    unfold Builtin.«dict.setdefault»
    refine wpAny_bind ?_
    unfold Builtin.Dict.keyAndDefault
    refine wpAny_bind (wpAny_notOrdered_dict hm.typeIs ?_)
    show wpAny _ _ (pure (d, Value.ref a, some dflt)) _ _ s
    refine wpAny_pure ?_
    show wpAny _ _ (if (d == sysModules) = true then _ else (dictSetDefault d (.ref a) dflt >>= _)) _ _ s
    rw [if_neg (by rw [hd]; exact Bool.false_ne_true)]
    exact wpAny_bind (wp_setdefault_heap (hsz := hz) hu hkey hm (fun p hp => wpAny_pure ⟨p.2, rfl, h1 p hp⟩) fun hn h' hm' hs' => wpAny_pure ⟨dflt, rfl, h2 hn h' hm' hs'⟩)
end
abbrev NK := List (List Key)
def TTk (H : Hp) (k : NK) (b : Addr) : Prop := ∃ vs, H b = some (.tup vs) ∧ Paired (fun x v => ∃ c, v = V.ref c ∧ H c = some (.tup (x.map kV))) k vs
def nVal (xs : List (NK × Addr × V)) (k : NK) : Option V := (xs.find? fun x => decide (x.1 = k)).map (·.2.2)
def DnR : List (NK × Addr × V) → List (NK × Addr × Value) → Prop := Paired fun p q => p.1 = q.1 ∧ p.2.1 = q.2.1 ∧ RelV p.2.2 q.2.2
def dnO (P : Program) (w : World) (a : Addr) (xs : List (NK × Addr × V)) : HO := .ext fun h => xs.length ≤ sizeLine ∧ (a == sysModules) = false ∧ ∃ ys, DnR xs ys ∧
  ∃ o es ep, h.get? a = some o ∧ o.ExactDict ∧ o.data = .dict es ep ∧ es.toList = ys.map (entryOfKey (ttKind (mixKind P w))) ∧ (ys.map (·.1)).Nodup
theorem dnO_ok {P : Program} {w : World} {H : Hp} {h : Heap} {a : Addr} {xs : List (NK × Addr × V)} (z : xs.length ≤ sizeLine) (lo : (a == sysModules) = false) {ys : List (NK × Addr × Value)} (r : DnR xs ys) {o : Obj} {es ep} (ho : h.get? a = some o) (hx : o.ExactDict) (hd : o.data = .dict es ep) (he : es.toList = ys.map (entryOfKey (ttKind (mixKind P w)))) (hn : (ys.map (·.1)).Nodup) : ObjOk P w H h a (dnO P w a xs) :=
  ⟨⟨z, lo, ys, r, o, es, ep, ho, hx, hd, he, hn⟩, ⟨o, ho⟩, fun h1 h2 ⟨z, lo, ys, r, o, es, ep, ho, q⟩ k => ⟨z, lo, ys, r, o, es, ep, k o ho, q⟩⟩
theorem tt_of {P : Program} {w : World} {H : Hp} {h : Heap} {k : NK} {b : Addr} (ok : HOk P w H h) (t : TTk H k b) : IsTT (mixKind P w) h k b := by
  obtain ⟨vs, hb, pr⟩ := t
  obtain ⟨_, its, r, o, h1, h2, n, h3⟩ := (show ObjOk P w H h b (.tup vs) from ok b _ hb)
  refine ⟨o, its.toArray, n, h1, h2, h3, ?_⟩
  have go : ∀ {k : NK} {vs : List V} {us : List Value}, Paired (fun x v => ∃ c, v = V.ref c ∧ H c = some (.tup (x.map kV))) k vs → Vals vs us → ItemsT (mixKind P w) h k us := by
    intro k vs us p
    induction p generalizing us with
    | nil => intro r; cases r; exact .nil
    | @cons x v ks vs hx t ih =>
      intro r
      cases r with
      | @cons _ u _ us hu tu =>
        obtain ⟨c, rfl, hc⟩ := hx
        obtain rfl : u = Value.ref c := hu
        exact .cons (key_of ok hc) (ih tu)
  simpa using go pr r
theorem dn_of {P : Program} {w : World} {H : Hp} {h : Heap} {a : Addr} {xs : List (NK × Addr × V)} (ok : HOk P w H h) (e : H a = some (dnO P w a xs)) (ht : ∀ x ∈ xs, TTk H x.1 x.2.1) : xs.length ≤ sizeLine ∧ (a == sysModules) = false ∧ ∃ ys, DnR xs ys ∧ h.DictOfH (ttKind (mixKind P w)) a ys := by
  obtain ⟨⟨z, lo, ys, r, o, es, ep, ho, hx, hd, he, hn⟩, _⟩ := ok a _ e
  refine ⟨z, lo, ys, r, o, es, ep, ho, hx, hd, he, fun y hy => ?_, hn⟩
  obtain ⟨j, hj⟩ := List.getElem?_of_mem hy
  have hl := Paired.length r
  have hjl := (List.getElem?_eq_some_iff.mp hj).1
  obtain ⟨q, hq, q1, q2, q3⟩ := Paired.at r (show xs[j]? = some (xs[j]'(by omega)) by simp)
  rw [hj] at hq; cases hq
  have := ht _ (List.getElem_mem (show j < xs.length by omega))
  rw [q1, q2] at this
  exact tt_of ok this
theorem nVal_rel {xs : List (NK × Addr × V)} {ys : List (NK × Addr × Value)} (r : DnR xs ys) (k : NK) : RelO (nVal xs k) ((atKey ys k).map (·.2)) := by
  unfold DnR at r
  induction r with
  | nil => exact trivial
  | @cons p q ps qs h t ih =>
    obtain ⟨h1, h2, h3⟩ := h
    unfold nVal atKey
    rw [List.find?_cons, List.find?_cons]
    by_cases e : p.1 = k
    · rw [decide_eq_true e, decide_eq_true (h1.symm.trans e)]; exact h3
    · rw [decide_eq_false e, decide_eq_false (fun z => e (h1.trans z))]; exact ih
section
variable {X : Cx} {pins : List (Addr × Obj)} {σ : St} {H : Hp} {s : Shared} {a : Addr} {xs : List (NK × Addr × V)} {A : Around} {E : Value → Shared → Prop}
theorem dn_dict (I : Inv X pins σ H s) (e : H a = some (dnO X.prog X.w a xs)) : s.TypeIs (.ref a) "dict" ∧ (∀ b, Value.ref a = .ref b → ∃ ob, s.heap.get? b = some ob ∧ ob.dict = none) ∧ (a == sysModules) = false := by
  obtain ⟨⟨z, lo, ys, r, o, es, ep, ho, hx, hd, he, hn⟩, _⟩ := I.hok a _ e
  exact ⟨⟨o, ho, hx.1⟩, fun b q => by cases q; exact ⟨o, ho, hx.2.1⟩, lo⟩
theorem dn_setd {k : NK} {b : Addr} {z : V} {r : Value} {Q : Value → Shared → Prop} (hu : A.units + 2 < cLine) (I : Inv X pins σ H s) (e : H a = some (dnO X.prog X.w a xs)) (hz0 : xs.length < sizeLine) (ht : ∀ x ∈ xs, TTk H x.1 x.2.1) (hb : TTk H k b) (rz : RelV z r)
    (h1 : ∀ v w' s', nVal xs k = some v → Inv X pins σ H s' → RelV v w' → Q w' s') (h2 : ∀ s', nVal xs k = none → Inv X pins σ (upd H a (dnO X.prog X.w a (xs ++ [(k, b, z)]))) s' → Q r s') :
    wpAny (model X.prog X.w) A (call (.builtin "dict.setdefault") [.ref a, .ref b, r]) Q E s := by
  obtain ⟨z0, lo, ys, rel, dd⟩ := dn_of I.hok e ht
  have hrel := nVal_rel rel k
  refine call_meetsIn PySem.F.slot_dict_setdefault dd.typeIs PySem.F.entry_dict_setdefault (PySem.F.args_dict_setdefault_3 _ _ _) (meetsH_setdefault (knd := ttKind (mixKind X.prog X.w)) a b lo r) ⟨hu, k, ys, tt_of I.hok hb, dd, by rw [← Paired.length rel]; exact z0, fun p hp => ?_, fun hn h' dd' hs => ?_⟩
  · rw [hp] at hrel
    cases l : nVal xs k with
    | none => rw [l] at hrel; exact hrel.elim
    | some v =>
      rw [l] at hrel
      exact h1 v p.2 _ l (I.tok _) hrel
  · rw [hn] at hrel
    cases l : nVal xs k with
    | some v => rw [l] at hrel; exact hrel.elim
    | none =>
      obtain ⟨o, es, ep, ho, hx, hd, he, _, hnd⟩ := dd'
      refine h2 _ l (I.write (x := a) (e := a) (by rw [e]; exact True.intro) (.inl rfl) (fun b q hb z => (hs.2 b hb).trans z) ⟨o, ho⟩ (dnO_ok (by simp; omega) lo (Paired.snoc rel ⟨rfl, rfl, rz⟩) ho hx hd he hnd))
theorem call_lenN : CallR X (.builtin "len") (fun xs H Q => ∃ a kvs, xs = [V.ref a] ∧ H a = some (dnO X.prog X.w a kvs) ∧ Q (.int kvs.length) H) := by
  intro pins s σ H xs us Q I r h
  obtain ⟨a, kvs, rfl, ha, q⟩ := h
  obtain ⟨u, rfl, ru⟩ := vals1 r
  cases ru
  obtain ⟨⟨z, lo, ys, r, o, es, ep, ho, hx, hd, he, hn⟩, _⟩ := I.hok a _ ha
  have hl : es.size = kvs.length := by
    have : es.toList.length = kvs.length := by rw [he, List.length_map]; exact (Paired.length r).symm
    simpa using this
  refine len_body lo ho hx hd (by rw [hl]; rw [sizeLine_eq] at z; omega) fun t t' ht => ⟨.int kvs.length, H, I.kept (t' := t') (fun _ _ h => h), ⟨t, by rw [hl]⟩, q⟩
end
def tDSetN (P : Program) (w : World) (td ty tx : TE) : TE := fun σ H Q => td σ H fun x H1 => ∃ a, x = .ref a ∧ (∃ xs, H1 a = some (dnO P w a xs)) ∧ ty σ H1 fun y H2 => tx σ H2 fun z H3 => ∃ xs k b, H3 a = some (dnO P w a xs) ∧ y = .ref b ∧ xs.length < sizeLine ∧ (∀ x ∈ xs, TTk H3 x.1 x.2.1) ∧ TTk H3 k b ∧
  (∀ v, nVal xs k = some v → Q v H3) ∧ (nVal xs k = none → Q z (upd H3 a (dnO P w a (xs ++ [(k, b, z)]))))
def tDNewN (P : Program) (w : World) : TE := fun _ H Q => ∀ p, H p = none → Q (.ref p) (upd H p (dnO P w p []))
section
variable {X : Cx} {o e f : Expr} {apos cpos pos : Pos} {td ty tx : TE}
theorem pe_dsetN (hu : X.A.units + 2 < cLine) (ho : PE X o td) (he : PE X e ty) (hf : PE X f tx) (m : M2 X o "setdefault" apos e f cpos) : PE X (.Call (.Attribute o "setdefault" apos) [e, f] [] cpos) (tDSetN X.prog X.w td ty tx) := by
  intro pins s σ H Q I h
  refine wpAny_Call_method m.base m.few m.line PySem.F.plainAttrs_dict PySem.F.slot_dict_setdefault PySem.F.type_dict_setdefault (thn (ho pins s σ H _ I h) fun u s1 hm0 => ?_)
  obtain ⟨x, H1, I1, rx, a, ex, ⟨xs0, d⟩, q1⟩ := hm0
  subst ex
  obtain rfl : u = Value.ref a := rx
  obtain ⟨t1, t2, _⟩ := dn_dict I1 d
  refine ⟨t1, t2, ?_⟩
  rw [m.trees]
  refine Calls.callWith_builtin rfl (Calls.evalArgs_plain (Calls.spliced_cons (thn (he pins s1 σ H1 _ I1 q1) fun iv s2 hm1 => ?_)))
  obtain ⟨y, H2, I2, ry, q2⟩ := hm1
  refine Calls.spliced_cons (thn (hf pins s2 σ H2 _ I2 q2) fun fv s3 hm2 => Calls.spliced_nil ?_)
  obtain ⟨z, H3, I3, rz, xs, k, b, ea, ey, hl, ht, hb, q3, q4⟩ := hm2
  subst ey
  obtain rfl : iv = Value.ref b := ry
  exact dn_setd hu I3 ea hl ht hb rz (fun v w' s4 l I4 rw' => ⟨v, _, I4, rw', q3 v l⟩) fun s4 l I4 => ⟨z, _, I4, rz, q4 l⟩
theorem pe_dnewN : PE X (.Dict [] [] pos) (tDNewN X.prog X.w) := fun pins s σ H Q I h =>
  wpAny_Dict_empty ⟨.ref s.heap.objs.size, _, I.laid (a := s.heap.objs.size) (o := dnO X.prog X.w s.heap.objs.size []) (t' := s.toks) (fun _ _ q => Heap.get?_push_of_some _ q) (Nat.le_refl _) (dnO_ok (Nat.zero_le _) (beq_eq_false_iff_ne.mpr (Ne.symm (Nat.ne_of_lt I.big))) (ys := []) .nil (Heap.get?_push_size _ rfl) ⟨rfl, rfl, rfl⟩ rfl rfl List.nodup_nil), rfl, h _ (I.hok.fresh (Nat.le_refl _))⟩
end
end L2
set_option Elab.async false
set_option linter.all false
set_option maxRecDepth 100000
set_option maxHeartbeats 1000000
namespace L2
open PySem PySem.Spec PyProof.Rows
def Itv (K : PySem.W.Frag) (a : Addr) (xs : List V) : It :=
  ⟨fun i H => SqL K H a xs ∧ i < xs.length, fun i H x H' => H' = H ∧ xs[xs.length - 1 - i]? = some x, fun i H => SqL K H a xs ∧ xs.length ≤ i⟩
theorem turn_rev {P : Program} {w : World} {K : PySem.W.Frag} {tg : Expr} (a it : Addr) (xs : List V) : Turn P w K tg (Itv K a xs) [it] it (fun i h => i ≤ xs.length ∧ h.IsRevIter it a ((xs.length : Int) - 1 - (i : Int))) where
  mem := by simp
  obj := fun i h st b hb => by
    have e : b = it := by simpa using hb
    subst e
    obtain ⟨_, o, e, c, d⟩ := st
    exact ⟨o, e, fun v z => by rw [d] at z; cases z⟩
  keep := fun i h h' st k => ⟨st.1, st.2.at fun o e => k it (by simp) o e⟩
  item := by
    intro X hP hw hK hc i pins s σ H E I hf st hg
    subst hP hw hK
    obtain ⟨hq, hi⟩ := hg
    obtain ⟨its, rv, p, hz⟩ := I.list hq
    have hx : xs[xs.length - 1 - i]? = some (xs[xs.length - 1 - i]'(by omega)) := by simp
    obtain ⟨u, hu, ru⟩ := rv.get hx
    obtain ⟨f0, f1, f2, f3, f4, f5⟩ := hf it (by simp)
    have e : (xs.length : Int) - 1 - (i : Int) = ((xs.length - 1 - i : Nat) : Int) := by omega
    have st2 := st.2
    rw [e] at st2
    refine wpAny_pyNext_rev_item st2 p.isList (x := u) (by simpa using hu) fun h' st' sb => ?_
    have e2 : ((xs.length - 1 - i : Nat) : Int) - 1 = (xs.length : Int) - 1 - ((i + 1 : Nat) : Int) := by omega
    rw [e2] at st'
    have I1 : Inv X pins σ H { s with heap := h' } := I.turned (t' := s.toks) (fun b o hb e => (sb.2 b hb).trans e) f0 f1 f3 f4 f5
    obtain ⟨o, e9, c, d⟩ := id st'
    exact ⟨u, rfl, go_of (s := { s with heap := h' }) e9 c d (by decide) ⟨_, H, I1, ru, ⟨rfl, hx⟩, ⟨hi, st'⟩, fun b hb => (hf b hb).1⟩⟩
  done := by
    intro X hP hw hK hc i pins s σ H E I hf st hg
    subst hP hw hK
    obtain ⟨hq, hi⟩ := hg
    obtain ⟨f0, f1, f2, f3, f4, f5⟩ := hf it (by simp)
    have st2 := st.2
    have e : (xs.length : Int) - 1 - (i : Int) = -1 := by have := st.1; omega
    rw [e] at st2
    exact wpAny_pyNext_rev_end (I.ok.hd hc) st2 fun h' eb => ⟨rfl, I.turned (t' := s.toks) (fun b o hb e => eb b o hb e) f0 f1 f3 f4 f5⟩
  self := fun _ _ _ _ _ st h => wpAny_pyIter_revIter st.2 h
def iRev (K : PySem.W.Frag) (ta : TA) : TI := fun σ H R => ta σ H fun vs H1 => ∃ (a : Addr) (xs : List V), vs = [.ref a] ∧ SqL K H1 a xs ∧ R (Itv K a xs) H1
theorem pi_rev {X : Cx} {K : PySem.W.Frag} {tg l : Expr} {ta : TA} {p pos : Pos} (hK : X.K = K) (hg : Gl X "reversed") (hm : X.mg "reversed" = none) (ha : PA X [l] ta) (hs : starEach [l] X.env = [(false, eval l X.env)] := by rfl) :
    PI X tg (.Call (.Name "reversed" p) [l] [] pos) (iRev K ta) := by
  subst hK
  intro pins s σ H R I h
  refine Call_ (ld_blt I hg hm PyProof.Rows.boot_reversed (PyProof.Rows.callWith_type1 (thn (ha pos pins s σ H _ I h) fun us s1 hm0 => ?_) hs rfl))
  obtain ⟨vs, H1, I1, r, q⟩ := hm0
  obtain ⟨a, xs, rfl, ha, q⟩ := q
  obtain ⟨u, rfl, ru⟩ := vals1 r
  cases ru
  obtain ⟨its, rv, pl, hz⟩ := I1.list ha
  refine call_reversed_list pl.isList ?_
  have hl : (its.toArray.size : Int) - 1 = (xs.length : Int) - 1 - ((0 : Nat) : Int) := by rw [rv.length]; simp
  have st : (s1.heap.push (revObj a ((its.toArray.size : Int) - 1))).IsRevIter s1.heap.objs.size a ((xs.length : Int) - 1 - ((0 : Nat) : Int)) := by
    rw [hl]
    exact ⟨_, Heap.get?_push_size _ rfl, rfl, rfl⟩
  refine wpAny_pyIter_revIter (s := { s1 with heap := _ }) st ?_
  refine ⟨s1.heap.objs.size, [s1.heap.objs.size], _, _, H1, rfl, I1.kept (t' := s1.toks) (fun b o e => Heap.get?_push_of_some _ e), turn_rev a _ xs, ⟨Nat.zero_le _, st⟩, fun b hb => ?_, q⟩
  have e : b = s1.heap.objs.size := by simpa using hb
  subst e
  exact I1.fpOk (Nat.le_refl _) (I1.hok.fresh (Nat.le_refl _))
theorem for_rev {K : PySem.W.Frag} {a : Addr} {xs : List V} {g : TG} {tb : TS} {D : Ends} {σ : St} {H : Hp} (Pv : Nat → St → Hp → Prop) (h0 : Pv 0 σ H) (hl : ∀ i σ H, i ≤ xs.length → Pv i σ H → SqL K H a xs)
    (hs : ∀ i x σ H, i < xs.length → xs[xs.length - 1 - i]? = some x → Pv i σ H → g x σ H fun σ2 H2 => tb { D with nx := Pv (i + 1), ct := Pv (i + 1), bk := D.nx } σ2 H2) (hd : ∀ σ H, Pv xs.length σ H → D.nx σ H) :
    ∃ W : Nat → Nat → St → Hp → Prop, (∃ m, W 0 m σ H) ∧ ∀ i m σ H, W i m σ H →
      ((Itv K a xs).stop i H ∧ D.nx σ H) ∨ ((Itv K a xs).go i H ∧ ∃ N : St → Hp → Prop, (∀ σ' H', N σ' H' → ∃ m', m' < m ∧ W (i + 1) m' σ' H') ∧ ∀ x H', (Itv K a xs).yld i H x H' → g x σ H' fun σ2 H2 => tb { D with nx := N, ct := N, bk := D.nx } σ2 H2) := by
  refine ⟨fun i m σ H => m = xs.length - i ∧ i ≤ xs.length ∧ Pv i σ H, ⟨xs.length, by simp, Nat.zero_le _, h0⟩, ?_⟩
  rintro i m σ H ⟨rfl, hi, p⟩
  have q := hl i σ H hi p
  by_cases hlt : i < xs.length
  · refine .inr ⟨⟨q, hlt⟩, Pv (i + 1), fun σ' H' p' => ⟨xs.length - (i + 1), by omega, rfl, hlt, p'⟩, fun x H' y => ?_⟩
    obtain ⟨e, y⟩ := y
    subst e
    exact hs i x σ _ hlt y p
  · have e : i = xs.length := by omega
    subst e
    exact .inl ⟨⟨q, Nat.le_refl _⟩, hd σ H p⟩
def tDispT (tk tv : TE) : TE := fun σ H Q => ∀ p, H p = none → tk σ (upd H p (.dT [])) fun x H1 => tv σ H1 fun y H2 => H2 p = some (.dT []) ∧ ∃ (k : List Key) (b : Addr), x = .ref b ∧ H2 b = some (.tup (k.map kV)) ∧ Q (.ref p) (upd H2 p (.dT [(k, y)]))
theorem pe_dispT {X : Cx} {pos : Pos} {k v : Expr} {tk tv : TE} (hu : X.A.units < cLine) (hk : PE X k tk) (hv : PE X v tv) : PE X (.Dict [some k] [v] pos) (tDispT tk tv) := by
  intro pins s σ H Q I q
  have hn := I.hok.fresh (Nat.le_refl s.heap.objs.size)
  have I1 := I.laid (a := s.heap.objs.size) (o := .dT []) (h' := s.heap.push { cls := .type "dict", data := .dict #[] }) (t' := s.toks) (fun _ _ q => Heap.get?_push_of_some _ q) (Nat.le_refl _) (dt_empty s.heap I.big)
  refine wpAny_Dict_any rfl rfl (by simp) (by simp) ?_
  refine pairTrees_cons_walk (thn (hk pins _ σ _ _ I1 (q _ hn)) fun u s1 hm1 => ?_)
  obtain ⟨x, H1, I2, rx, q1⟩ := hm1
  refine thn (hv pins s1 σ H1 _ I2 q1) fun w2 s2 hm2 => ?_
  obtain ⟨y, H2, I3, ry, hp, ks, b, rfl, hb, q2⟩ := hm2
  refine pairTrees_nil_walk ?_
  obtain rfl : u = Value.ref b := rx
  unfold storeAll
  rw [List.forIn_cons]
  obtain ⟨z, hd, xs, rel, dd⟩ := dt_of I3.hok hp
  cases rel
  refine wpAny_bind (wpAny_bind (wpAny_dictSet_heap (hsz := by rw [List.length_nil]; exact Nat.zero_le _) (show (tupleKind (mixKind X.prog X.w)).room X.A from hu) (key_of I3.hok hb) dd fun h' dd' hs => wpAny_pure ?_))
  show wpAny _ _ (forIn [] _ _) _ _ _
  rw [List.forIn_nil]
  obtain ⟨o, es, ep, ho, h2, h3, h4, _, h5⟩ := dd'
  refine wpAny_pure ⟨.ref s.heap.objs.size, _, d_write (ob := .dT [(ks, y)]) I3 (by rw [hp]; exact True.intro) hs ⟨o, ho⟩ ⟨by show 1 ≤ sizeLine; decide, hd, [(ks, b, w2)], .cons ⟨rfl, ?_, ry⟩ .nil, o, es, ep, ho, h2, h3, h4, h5⟩, rfl, q2⟩
  show upd H2 _ _ b = _
  rw [upd_ne (ne_of hb hp (fun z => nomatch z))]
  exact hb
end L2
set_option Elab.async false
set_option linter.all false
set_option maxRecDepth 100000
set_option maxHeartbeats 1000000
namespace L2
open PySem
theorem tlA_sim {M M' : Mch} (ha : M.asks = M'.asks) {B : Nat → Nat → Prop} (hb : ∀ p p', B p p' → ∀ a, a < M.asks → M.ans p a = M'.ans p' a ∧ B (M.nxt p a) (M'.nxt p' a)) : ∀ {s : List Nat} {p q p' q' : Nat}, B p p' → B q q' → tlA M s p q → tlA M' s p' q'
  | [], _, _, _, _, _, _, h => h
  | [a], p, q, p', q', h1, h2, h => ⟨by rw [← ha]; exact h.1, by rw [← (hb _ _ h1 a h.1).1, ← (hb _ _ h2 a h.1).1]; exact h.2⟩
  | a :: b :: s, p, q, p', q', h1, h2, h => ⟨by rw [← ha]; exact h.1, by rw [← (hb _ _ h1 a h.1).1, ← (hb _ _ h2 a h.1).1]; exact h.2.1, tlA_sim ha hb (hb _ _ h1 a h.1).2 (hb _ _ h2 a h.1).2 h.2.2⟩
def Alk (M : Mch) (p q : Nat) : Prop := ∀ s, ¬ tlA M s p q
theorem Alk.eqv {M : Mch} {p q : Nat} (h : Alk M p q) (k : Nat) : Eqv M k p q := Classical.byContradiction fun z => by
  obtain ⟨s, hs, _⟩ := tlA.of z
  exact h s hs
theorem Alk.of_eqv {M : Mch} {p q : Nat} (h : ∀ k, Eqv M k p q) : Alk M p q := fun s hs => hs.not (h _)
theorem Alk.symm {M : Mch} {p q : Nat} (h : Alk M p q) : Alk M q p := .of_eqv fun k => (h.eqv k).symm
theorem Alk.trans {M : Mch} {p q r : Nat} (h1 : Alk M p q) (h2 : Alk M q r) : Alk M p r := .of_eqv fun k => (h1.eqv k).trans (h2.eqv k)
theorem Alk.step {M : Mch} {p q a : Nat} (h : Alk M p q) (ha : a < M.asks) : M.ans p a = M.ans q a ∧ Alk M (M.nxt p a) (M.nxt q a) := ⟨(h.eqv 1 a ha).1, .of_eqv fun k => (h.eqv (k + 1) a ha).2⟩
theorem Alk.bisim {M : Mch} {B : Nat → Nat → Prop} (hb : ∀ p q, B p q → ∀ a, a < M.asks → M.ans p a = M.ans q a ∧ B (M.nxt p a) (M.nxt q a)) {p q : Nat} (h : B p q) : Alk M p q := by
  refine .of_eqv fun k => ?_
  induction k generalizing p q with
  | zero => exact trivial
  | succ k ih => exact fun a ha => ⟨(hb _ _ h a ha).1, ih (hb _ _ h a ha).2⟩
def fnd (t : Nat → Nat) (F : List Nat) (s : Nat) : Option Nat := F.findIdx? fun f => decide (t f = t s)
theorem fnd_some {t : Nat → Nat} {F : List Nat} {s j : Nat} (h : fnd t F s = some j) : ∃ f, F[j]? = some f ∧ t f = t s := by
  unfold fnd at h
  obtain ⟨hl, h1, _⟩ := List.findIdx?_eq_some_iff_getElem.mp h
  exact ⟨F[j], List.getElem?_eq_getElem hl, of_decide_eq_true h1⟩
theorem fnd_none {t : Nat → Nat} {F : List Nat} {s : Nat} (h : fnd t F s = none) : ∀ f ∈ F, t f ≠ t s := fun f hf z => by
  unfold fnd at h
  have := List.findIdx?_eq_none_iff.mp h f hf
  rw [decide_eq_true z] at this
  cases this
def lstp (M : Mch) (t : Nat → Nat) (x : List Nat × List (Int × Nat)) (f a : Nat) : List Nat × List (Int × Nat) := ((fnd t x.1 (M.nxt f a)).elim (x.1 ++ [M.nxt f a]) fun _ => x.1, x.2 ++ [(M.ans f a, (fnd t x.1 (M.nxt f a)).getD x.1.length)])
def lrow (M : Mch) (t : Nat → Nat) (f : Nat) (F : List Nat) : Nat → List Nat × List (Int × Nat)
  | 0 => (F, [])
  | k + 1 => lstp M t (lrow M t f F k) f k
def liter (M : Mch) (t : Nat → Nat) (z : Nat) : Nat → List Nat × List (List (Int × Nat))
  | 0 => ([z], [])
  | k + 1 => ((lrow M t ((liter M t z k).1.getD k 0) (liter M t z k).1 M.asks).1, (liter M t z k).2 ++ [(lrow M t ((liter M t z k).1.getD k 0) (liter M t z k).1 M.asks).2])
def LOut (M : Mch) (t : Nat → Nat) (z : Nat) (L : List (List (Int × Nat))) : Prop := ∃ k, (liter M t z k).2 = L ∧ (liter M t z k).1.length ≤ k ∧ ∀ j, j < k → j < (liter M t z j).1.length
structure Crs (M1 M2 : Mch) (t1 t2 : Nat → Nat) (X : Nat → Nat → Prop) : Prop where
  asks : M1.asks = M2.asks
  go : ∀ p q, X p q → ∀ a, a < M1.asks → M1.ans p a = M2.ans q a ∧ X (M1.nxt p a) (M2.nxt q a)
  kd : ∀ p q p' q', X p q → X p' q' → (t1 p = t1 p' ↔ t2 q = t2 q')
def PrX (X : Nat → Nat → Prop) (F1 F2 : List Nat) : Prop := F1.length = F2.length ∧ ∀ (i : Nat) f g, F1[i]? = some f → F2[i]? = some g → X f g
theorem PrX.nil {X : Nat → Nat → Prop} : PrX X [] [] := ⟨rfl, fun i f g h => by cases h⟩
theorem PrX.snoc {X : Nat → Nat → Prop} {F1 F2 : List Nat} {f g : Nat} (h : PrX X F1 F2) (x : X f g) : PrX X (F1 ++ [f]) (F2 ++ [g]) := by
  refine ⟨by rw [List.length_append, List.length_append, h.1]; rfl, fun i f' g' h1 h2 => ?_⟩
  rcases Nat.lt_or_ge i F1.length with c | c
  · rw [List.getElem?_append_left c] at h1
    rw [List.getElem?_append_left (by rw [← h.1]; exact c)] at h2
    exact h.2 i f' g' h1 h2
  · rw [List.getElem?_append_right c] at h1
    rw [List.getElem?_append_right (by rw [← h.1]; exact c), ← h.1] at h2
    have hi : i - F1.length = 0 := by have := (List.getElem?_eq_some_iff.mp h1).1; simp at this; omega
    rw [hi] at h1 h2
    cases h1; cases h2
    exact x
theorem fnd_same {M1 M2 : Mch} {t1 t2 : Nat → Nat} {X : Nat → Nat → Prop} (C : Crs M1 M2 t1 t2 X) {F1 F2 : List Nat} (h : PrX X F1 F2) {s1 s2 : Nat} (x : X s1 s2) : fnd t1 F1 s1 = fnd t2 F2 s2 := by
  unfold fnd
  induction F1 generalizing F2 with
  | nil =>
    have : F2 = [] := List.eq_nil_of_length_eq_zero h.1.symm
    subst this; rfl
  | cons f F1 ih =>
    cases F2 with
    | nil => exact absurd h.1 (by simp)
    | cons g F2 =>
      have xfg := h.2 0 f g rfl rfl
      have ht : PrX X F1 F2 := ⟨by have := h.1; simpa using this, fun i f' g' h1 h2 => h.2 (i + 1) f' g' h1 h2⟩
      rw [List.findIdx?_cons, List.findIdx?_cons, ih ht]
      have e : decide (t1 f = t1 s1) = decide (t2 g = t2 s2) := by
        rw [Bool.eq_iff_iff, decide_eq_true_eq, decide_eq_true_eq]; exact C.kd _ _ _ _ xfg x
      rw [e]
theorem lrow_same {M1 M2 : Mch} {t1 t2 : Nat → Nat} {X : Nat → Nat → Prop} (C : Crs M1 M2 t1 t2 X) {F1 F2 : List Nat} (h : PrX X F1 F2) {f g : Nat} (x : X f g) : ∀ k, k ≤ M1.asks → PrX X (lrow M1 t1 f F1 k).1 (lrow M2 t2 g F2 k).1 ∧ (lrow M1 t1 f F1 k).2 = (lrow M2 t2 g F2 k).2
  | 0, _ => ⟨h, rfl⟩
  | k + 1, hk => by
    obtain ⟨h1, h2⟩ := lrow_same C h x k (by omega)
    obtain ⟨g1, g2⟩ := C.go _ _ x k (by omega)
    have e := fnd_same C h1 g2
    show PrX X (lstp M1 t1 _ f k).1 (lstp M2 t2 _ g k).1 ∧ (lstp M1 t1 _ f k).2 = (lstp M2 t2 _ g k).2
    unfold lstp
    rw [h2, e, g1, h1.1]
    refine ⟨?_, rfl⟩
    cases fnd t2 (lrow M2 t2 g F2 k).1 (M2.nxt g k) with
    | none => exact h1.snoc g2
    | some j => exact h1
theorem liter_same {M1 M2 : Mch} {t1 t2 : Nat → Nat} {X : Nat → Nat → Prop} (C : Crs M1 M2 t1 t2 X) {z1 z2 : Nat} (x : X z1 z2) : ∀ k, (∀ j, j < k → j < (liter M1 t1 z1 j).1.length) → PrX X (liter M1 t1 z1 k).1 (liter M2 t2 z2 k).1 ∧ (liter M1 t1 z1 k).2 = (liter M2 t2 z2 k).2
  | 0, _ => ⟨PrX.nil.snoc x, rfl⟩
  | k + 1, hk => by
    obtain ⟨h1, h2⟩ := liter_same C x k fun j hj => hk j (by omega)
    have hl := hk k (by omega)
    have hl2 : k < (liter M2 t2 z2 k).1.length := by rw [← h1.1]; exact hl
    have xk : X ((liter M1 t1 z1 k).1.getD k 0) ((liter M2 t2 z2 k).1.getD k 0) := by
      refine h1.2 k _ _ ?_ ?_
      · rw [List.getD_eq_getElem?_getD, List.getElem?_eq_getElem hl]; rfl
      · rw [List.getD_eq_getElem?_getD, List.getElem?_eq_getElem hl2]; rfl
    obtain ⟨g1, g2⟩ := lrow_same C h1 xk M1.asks (Nat.le_refl _)
    show PrX X (lrow M1 t1 _ _ M1.asks).1 (lrow M2 t2 _ _ M2.asks).1 ∧ _ ++ [(lrow M1 t1 _ _ M1.asks).2] = _ ++ [(lrow M2 t2 _ _ M2.asks).2]
    rw [← C.asks]
    exact ⟨g1, by rw [g2, h2]⟩
theorem LOut.same {M1 M2 : Mch} {t1 t2 : Nat → Nat} {X : Nat → Nat → Prop} (C : Crs M1 M2 t1 t2 X) {z1 z2 : Nat} (x : X z1 z2) {L1 L2 : List (List (Int × Nat))} (h1 : LOut M1 t1 z1 L1) (h2 : LOut M2 t2 z2 L2) : L1 = L2 := by
  obtain ⟨k1, e1, l1, m1⟩ := h1
  obtain ⟨k2, e2, l2, m2⟩ := h2
  have key : k1 = k2 := by
    rcases Nat.lt_trichotomy k1 k2 with c | c | c
    · have s := (liter_same C x k1 m1).1.1
      have := m2 k1 c
      omega
    · exact c
    · have hm : ∀ j, j < k2 → j < (liter M1 t1 z1 j).1.length := fun j hj => m1 j (by omega)
      have s := (liter_same C x k2 hm).1.1
      have := m1 k2 c
      omega
  subst key
  rw [← e1, ← e2]
  exact (liter_same C x k1 m1).2
structure LRw (M : Mch) (t : Nat → Nat) (f : Nat) (F' : List Nat) (k : Nat) (row : List (Int × Nat)) : Prop where
  len : row.length = k
  go : ∀ a, a < k → ∃ j g, row[a]? = some (M.ans f a, j) ∧ F'[j]? = some g ∧ t g = t (M.nxt f a)
theorem LRw.up {M : Mch} {t : Nat → Nat} {f : Nat} {F' E : List Nat} {k : Nat} {row : List (Int × Nat)} (h : LRw M t f F' k row) : LRw M t f (F' ++ E) k row := ⟨h.len, fun a ha => by
  obtain ⟨j, g, h1, h2, h3⟩ := h.go a ha
  exact ⟨j, g, h1, by rw [List.getElem?_append_left (List.getElem?_eq_some_iff.mp h2).1]; exact h2, h3⟩⟩
structure FOk (n : Nat) (t : Nat → Nat) (F : List Nat) : Prop where
  lt : ∀ f ∈ F, f < n
  nd : (F.map t).Nodup
theorem FOk.few {n : Nat} {t : Nat → Nat} {F : List Nat} (h : FOk n t F) : F.length ≤ n := by
  have nd : F.Nodup := (List.pairwise_map.mp h.nd).imp fun {a b} hab e => hab (by rw [e])
  have := nodup_subA F (List.range n) nd fun x hx => List.mem_range.mpr (h.lt x hx)
  rwa [List.length_range] at this
theorem FOk.snoc {n : Nat} {t : Nat → Nat} {F : List Nat} {s : Nat} (h : FOk n t F) (hs : s < n) (hn : fnd t F s = none) : FOk n t (F ++ [s]) := by
  refine ⟨fun f hf => ?_, ?_⟩
  · rcases List.mem_append.mp hf with z | z
    · exact h.lt f z
    · rw [List.mem_singleton.mp z]; exact hs
  · rw [List.map_append]
    refine List.nodup_append.mpr ⟨h.nd, by simp, fun a ha b hb e => ?_⟩
    have : b = t s := by simpa using hb
    obtain ⟨f, hf, rfl⟩ := List.mem_map.mp ha
    exact fnd_none hn f hf (e.trans this)
theorem lrow_ok {M : Mch} {n : Nat} {t : Nat → Nat} (hn : ∀ p a, p < n → a < M.asks → M.nxt p a < n) {f : Nat} (hf : f < n) {F : List Nat} (hF : FOk n t F) : ∀ k, k ≤ M.asks → FOk n t (lrow M t f F k).1 ∧ (∃ E, (lrow M t f F k).1 = F ++ E) ∧ LRw M t f (lrow M t f F k).1 k (lrow M t f F k).2
  | 0, _ => ⟨hF, ⟨[], (List.append_nil F).symm⟩, rfl, fun a ha => absurd ha (Nat.not_lt_zero a)⟩
  | k + 1, hk => by
    obtain ⟨h1, ⟨E, hE⟩, h3⟩ := lrow_ok hn hf hF k (by omega)
    have hs := hn f k hf (by omega)
    show FOk n t (lstp M t _ f k).1 ∧ (∃ E, (lstp M t _ f k).1 = F ++ E) ∧ LRw M t f (lstp M t _ f k).1 (k + 1) (lstp M t _ f k).2
    unfold lstp
    have new : ∀ {F' : List Nat} {j g : Nat}, LRw M t f F' k (lrow M t f F k).2 → F'[j]? = some g → t g = t (M.nxt f k) → LRw M t f F' (k + 1) ((lrow M t f F k).2 ++ [(M.ans f k, j)]) := fun {F' j g} l w1 w2 => by
      refine ⟨by rw [List.length_append, l.len]; rfl, fun a ha => ?_⟩
      rcases Nat.lt_or_ge a k with c | c
      · obtain ⟨j', g', e1, e2⟩ := l.go a c
        exact ⟨j', g', by rw [List.getElem?_append_left (by rw [l.len]; exact c)]; exact e1, e2⟩
      · have : a = k := by omega
        subst this
        exact ⟨j, g, by rw [List.getElem?_append_right (by rw [l.len]; omega), l.len, Nat.sub_self]; rfl, w1, w2⟩
    cases e : fnd t (lrow M t f F k).1 (M.nxt f k) with
    | none =>
      refine ⟨h1.snoc hs e, ⟨E ++ [M.nxt f k], ?_⟩, new h3.up (g := M.nxt f k) (by simp) rfl⟩
      show _ ++ _ = _
      rw [hE, List.append_assoc]
    | some j =>
      obtain ⟨g, e1, e2⟩ := fnd_some e
      exact ⟨h1, ⟨E, hE⟩, new h3 e1 e2⟩
structure LIt (M : Mch) (n : Nat) (t : Nat → Nat) (z k : Nat) (F : List Nat) (L : List (List (Int × Nat))) : Prop where
  fok : FOk n t F
  z0 : F[0]? = some z
  len : L.length = k
  row : ∀ (i : Nat), i < k → ∃ f r, F[i]? = some f ∧ L[i]? = some r ∧ LRw M t f F M.asks r
theorem liter_ok {M : Mch} {n : Nat} {t : Nat → Nat} (hn : ∀ p a, p < n → a < M.asks → M.nxt p a < n) {z : Nat} (hz : z < n) : ∀ k, (∀ j, j < k → j < (liter M t z j).1.length) → LIt M n t z k (liter M t z k).1 (liter M t z k).2
  | 0, _ => ⟨⟨fun f hf => by rw [List.mem_singleton.mp hf]; exact hz, by simp [liter]⟩, rfl, rfl, fun i hi => absurd hi (Nat.not_lt_zero i)⟩
  | k + 1, hk => by
    have ih := liter_ok hn hz k fun j hj => hk j (by omega)
    have hl := hk k (by omega)
    have ef : (liter M t z k).1[k]? = some ((liter M t z k).1.getD k 0) := by rw [List.getD_eq_getElem?_getD, List.getElem?_eq_getElem hl]; rfl
    have hf : (liter M t z k).1.getD k 0 < n := ih.fok.lt _ (List.mem_of_getElem? ef)
    obtain ⟨h1, ⟨E, hE⟩, h3⟩ := lrow_ok hn hf ih.fok M.asks (Nat.le_refl _)
    have old : ∀ {i f : Nat}, (liter M t z k).1[i]? = some f → ((liter M t z k).1 ++ E)[i]? = some f := fun {i f} h => by rw [List.getElem?_append_left (List.getElem?_eq_some_iff.mp h).1]; exact h
    show LIt M n t z (k + 1) (lrow M t _ _ M.asks).1 (_ ++ [(lrow M t _ _ M.asks).2])
    rw [hE] at h1 h3 ⊢
    refine ⟨h1, old ih.z0, by rw [List.length_append, ih.len]; rfl, fun i hi => ?_⟩
    rcases Nat.lt_or_ge i k with c | c
    · obtain ⟨f, r, e1, e2, e3⟩ := ih.row i c
      exact ⟨f, r, old e1, by rw [List.getElem?_append_left (by rw [ih.len]; exact c)]; exact e2, e3.up⟩
    · have : i = k := by omega
      subst this
      exact ⟨_, _, old ef, by rw [List.getElem?_append_right (by rw [ih.len]; omega), ih.len, Nat.sub_self]; rfl, h3⟩
def KdOk (M : Mch) (n : Nat) (t : Nat → Nat) : Prop := ∀ p q, p < n → q < n → t p = t q → ∀ a, a < M.asks → M.ans p a = M.ans q a ∧ t (M.nxt p a) = t (M.nxt q a)
theorem LOut.back {M1 M2 : Mch} {n1 n2 : Nat} {t1 t2 : Nat → Nat} (ha : M1.asks = M2.asks) (hn1 : ∀ p a, p < n1 → a < M1.asks → M1.nxt p a < n1) (hn2 : ∀ p a, p < n2 → a < M2.asks → M2.nxt p a < n2) (k1 : KdOk M1 n1 t1) (k2 : KdOk M2 n2 t2) {z1 z2 : Nat} (hz1 : z1 < n1) (hz2 : z2 < n2) {L : List (List (Int × Nat))} (h1 : LOut M1 t1 z1 L) (h2 : LOut M2 t2 z2 L) :
    ∃ B : Nat → Nat → Prop, B z1 z2 ∧ ∀ p q, B p q → p < n1 ∧ q < n2 ∧ ∀ a, a < M1.asks → M1.ans p a = M2.ans q a ∧ B (M1.nxt p a) (M2.nxt q a) := by
  obtain ⟨m1, e1, l1, r1⟩ := h1
  obtain ⟨m2, e2, l2, r2⟩ := h2
  have I1 := liter_ok hn1 hz1 m1 r1
  have I2 := liter_ok hn2 hz2 m2 r2
  have em : m1 = m2 := by rw [← I1.len, ← I2.len, e1, e2]
  subst em
  rw [e1] at I1
  rw [e2] at I2
  generalize (liter M1 t1 z1 m1).1 = F1 at I1 l1
  generalize (liter M2 t2 z2 m1).1 = F2 at I2 l2
  refine ⟨fun p q => p < n1 ∧ q < n2 ∧ ∃ i f g, F1[i]? = some f ∧ F2[i]? = some g ∧ t1 p = t1 f ∧ t2 q = t2 g, ⟨hz1, hz2, 0, z1, z2, I1.z0, I2.z0, rfl, rfl⟩, ?_⟩
  rintro p q ⟨hp, hq, i, f, g, f1, f2, tp, tq⟩
  refine ⟨hp, hq, fun a ha1 => ?_⟩
  have ha2 : a < M2.asks := by rw [← ha]; exact ha1
  have il := (List.getElem?_eq_some_iff.mp f1).1
  obtain ⟨f', r, g1, g2, g3⟩ := I1.row i (by omega)
  obtain ⟨g', r', g4, g5, g6⟩ := I2.row i (by omega)
  rw [f1] at g1; cases g1
  rw [f2] at g4; cases g4
  rw [g2] at g5; cases g5
  obtain ⟨j, x, x1, x2, x3⟩ := g3.go a ha1
  obtain ⟨j', y, y1, y2, y3⟩ := g6.go a ha2
  rw [x1] at y1
  injection y1 with y1
  injection y1 with y1 y1'
  subst y1'
  have b1 := k1 p f hp (I1.fok.lt _ (List.mem_of_getElem? f1)) tp a ha1
  have b2 := k2 q g hq (I2.fok.lt _ (List.mem_of_getElem? f2)) tq a ha2
  refine ⟨by rw [b1.1, y1, b2.1], hn1 p a hp ha1, hn2 q a hq ha2, j, x, y, x2, y2, by rw [b1.2, x3], by rw [b2.2, y3]⟩
end L2
set_option Elab.async false
set_option linter.all false
set_option maxRecDepth 100000
set_option maxHeartbeats 4000000
namespace Law
open PySem L2
def top (i : Nat) : Stmt := PySem.Challenge.pw_rankgarth_k52_two_machines.main.body.getD i (.Pass ⟨0, 0, 0, 0⟩)
abbrev s_is_whole : Stmt := top 5
abbrev s_is_place : Stmt := top 6
abbrev s_check_machine_row : Stmt := top 8
abbrev s_check_machine : Stmt := top 9
abbrev s_machine_of : Stmt := top 10
abbrev s_sights : Stmt := top 11
abbrev s_split_further : Stmt := top 12
abbrev s_splits : Stmt := top 13
abbrev s_first_unlike : Stmt := top 14
abbrev s_apart_in : Stmt := top 15
abbrev s_rows_moved : Stmt := top 16
abbrev s_differ : Stmt := top 17
abbrev s_least_machine : Stmt := top 18
abbrev s_law_at : Stmt := top 20
abbrev s_law_whole : Stmt := top 21
abbrev s_law_free : Stmt := top 22
abbrev s_law_changed : Stmt := top 23
abbrev s_law_doubled : Stmt := top 24
abbrev s_law_first : Stmt := top 25
abbrev s_law_is_due : Stmt := top 26
abbrev s_law_refused : Stmt := top 27
abbrev s_law_unlike : Stmt := top 28
abbrev s_law_made : Stmt := top 29
abbrev s_law : Stmt := top 30
structure Txt (mg : Str → Option Value) : Prop where
  b_ValueError : mg "ValueError" = none
  b_bool : mg "bool" = none
  b_enumerate : mg "enumerate" = none
  b_int : mg "int" = none
  b_isinstance : mg "isinstance" = none
  b_len : mg "len" = none
  b_list : mg "list" = none
  b_max : mg "max" = none
  b_range : mg "range" = none
  b_reversed : mg "reversed" = none
  b_tuple : mg "tuple" = none
  b_zip : mg "zip" = none
abbrev xRs : List Str := ["NoMachine"]
abbrev xNs : List Str := ["NoMachine", "NoAsk"]
theorem sc_is_whole : FnScope ["value"] ["value"] (defScope s_is_whole) := ⟨rfl, rfl, rfl, by decide +kernel, rfl, by decide +kernel, by decide +kernel⟩
theorem sc_is_place : FnScope ["value", "count"] ["value", "count"] (defScope s_is_place) := ⟨rfl, rfl, rfl, by decide +kernel, rfl, by decide +kernel, by decide +kernel⟩
theorem sc_check_machine_row : FnScope ["row", "asks", "states", "step"] ["row", "asks", "states"] (defScope s_check_machine_row) := ⟨rfl, rfl, rfl, by decide +kernel, rfl, by decide +kernel, by decide +kernel⟩
theorem sc_check_machine : FnScope ["start", "rows", "row"] ["start", "rows"] (defScope s_check_machine) := ⟨rfl, rfl, rfl, by decide +kernel, rfl, by decide +kernel, by decide +kernel⟩
theorem sc_machine_of : FnScope ["start", "rows"] ["start", "rows"] (defScope s_machine_of) := ⟨rfl, rfl, rfl, by decide +kernel, rfl, by decide +kernel, by decide +kernel⟩
theorem sc_sights : FnScope ["row", "table"] ["row", "table"] (defScope s_sights) := ⟨rfl, rfl, rfl, by decide +kernel, rfl, by decide +kernel, by decide +kernel⟩
theorem sc_split_further : FnScope ["rows", "table", "numbers", "further", "row"] ["rows", "table"] (defScope s_split_further) := ⟨rfl, rfl, rfl, by decide +kernel, rfl, by decide +kernel, by decide +kernel⟩
theorem sc_splits : FnScope ["rows", "tables", "table"] ["rows"] (defScope s_splits) := ⟨rfl, rfl, rfl, by decide +kernel, rfl, by decide +kernel, by decide +kernel⟩
theorem sc_first_unlike : FnScope ["row", "other", "table", "sight"] ["row", "other", "table"] (defScope s_first_unlike) := ⟨rfl, rfl, rfl, by decide +kernel, rfl, by decide +kernel, by decide +kernel⟩
theorem sc_apart_in : FnScope ["rows", "one", "other", "tables", "alike", "asks", "table", "ask"] ["rows", "one", "other"] (defScope s_apart_in) := ⟨rfl, rfl, rfl, by decide +kernel, rfl, by decide +kernel, by decide +kernel⟩
theorem sc_rows_moved : FnScope ["rows", "by"] ["rows", "by"] (defScope s_rows_moved) := ⟨rfl, rfl, rfl, by decide +kernel, rfl, by decide +kernel, by decide +kernel⟩
theorem sc_differ : FnScope ["one", "other", "count"] ["one", "other"] (defScope s_differ) := ⟨rfl, rfl, rfl, by decide +kernel, rfl, by decide +kernel, by decide +kernel⟩
theorem sc_least_machine : FnScope ["machine", "rows", "kinds", "firsts", "numbers", "least", "row", "step", "kind"] ["machine"] (defScope s_least_machine) := ⟨rfl, rfl, rfl, by decide +kernel, rfl, by decide +kernel, by decide +kernel⟩
theorem sc_law_at : FnScope ["_law_script", "_law_k", "_law_mixed"] ["_law_script", "_law_k"] (defScope s_law_at) := ⟨rfl, rfl, rfl, by decide +kernel, rfl, by decide +kernel, by decide +kernel⟩
theorem sc_law_whole : FnScope ["_law_found"] ["_law_found"] (defScope s_law_whole) := ⟨rfl, rfl, rfl, by decide +kernel, rfl, by decide +kernel, by decide +kernel⟩
theorem sc_law_free : FnScope ["_law_script", "_law_states", "_law_asks", "_law_rows", "_law_s", "_law_row", "_law_a", "_law_cell"] ["_law_script", "_law_states", "_law_asks"] (defScope s_law_free) := ⟨rfl, rfl, rfl, by decide +kernel, rfl, by decide +kernel, by decide +kernel⟩
theorem sc_law_changed : FnScope ["_law_script", "_law_base", "_law_rows", "_law_place", "_law_ask", "_law_answer", "_law_after"] ["_law_script", "_law_base"] (defScope s_law_changed) := ⟨rfl, rfl, rfl, by decide +kernel, rfl, by decide +kernel, by decide +kernel⟩
theorem sc_law_doubled : FnScope ["_law_script", "_law_base", "_law_states", "_law_by", "_law_many", "_law_rows", "_law_s", "_law_row", "_law_a", "_law_answer", "_law_after", "_law_room"] ["_law_script", "_law_base", "_law_states", "_law_by"] (defScope s_law_doubled) := ⟨rfl, rfl, rfl, by decide +kernel, rfl, by decide +kernel, by decide +kernel⟩
theorem sc_law_first : FnScope ["_law_rows", "_law_others", "_law_one", "_law_other", "_law_ways", "_law_waiting", "_law_k", "_law_mine", "_law_yours", "_law_ask", "_law_pair"] ["_law_rows", "_law_others", "_law_one", "_law_other"] (defScope s_law_first) := ⟨rfl, rfl, rfl, by decide +kernel, rfl, by decide +kernel, by decide +kernel⟩
theorem sc_law_is_due : FnScope ["_law_found", "_law_due", "_law_one", "_law_other"] ["_law_found", "_law_due"] (defScope s_law_is_due) := ⟨rfl, rfl, rfl, by decide +kernel, rfl, by decide +kernel, by decide +kernel⟩
theorem sc_law_refused : FnScope ["_law_one", "_law_other", "_law_caught", "error"] ["_law_one", "_law_other"] (defScope s_law_refused) := ⟨rfl, rfl, rfl, by decide +kernel, rfl, by decide +kernel, by decide +kernel⟩
theorem sc_law_unlike : FnScope ["_law_row"] ["_law_row"] (defScope s_law_unlike) := ⟨rfl, rfl, rfl, by decide +kernel, rfl, by decide +kernel, by decide +kernel⟩
theorem sc_law_made : FnScope ["_law_script", "_law_head", "_law_many", "_law_mores", "_law_asks", "_law_base", "_law_rows"] ["_law_script"] (defScope s_law_made) := ⟨rfl, rfl, rfl, by decide +kernel, rfl, by decide +kernel, by decide +kernel⟩
theorem sc_law : FnScope ["_law_script", "_law_rows", "_law_others", "_law_start", "_law_first_here", "_law_one", "_law_other", "_law_due", "_law_third"] ["_law_script"] (defScope s_law) := ⟨rfl, rfl, rfl, by decide +kernel, rfl, by decide +kernel, by decide +kernel⟩
section
variable {P : Program} {w : World} {K : PySem.W.Frag} {mg : Str → Option Value} {base : Heap}
def spWhole : Sp := fun vs H Q _ => ∃ z : Int, vs = [.int z] ∧ Q (.bl true) H
theorem ok_whole (F : DefAt K mg "_law_whole" s_law_whole ["_law_found"]) (T : Txt mg) : Dn P w K mg base "_law_whole" 1 ["_law_found"] spWhole := by
  have sc := sc_law_whole
  refine F.ok sc (fun vs H Q E h => ?_) (fun f cdv A outer s H vs Q E hr h => ?_)
  · obtain ⟨z, rfl, _⟩ := h; rfl
  obtain ⟨z, rfl, q⟩ := h
  refine ⟨_, (pss_one (ps_ret (pe_and (pe_callB (clIsi (K := K) rfl (T := "int")) rfl T.b_isinstance PyProof.Rows.boot_isinstance (pa_cons (pv 0) (pa_cons (pe_bltn (v := .ty "int") rfl T.b_int PyProof.Rows.boot_int rfl) pa_nil))) (pe_one (pe_not (pe_callB (clIsi (K := K) rfl (T := "bool")) rfl T.b_isinstance PyProof.Rows.boot_isinstance (pa_cons (pv 0) (pa_cons (pe_bltn (v := .ty "bool") rfl T.b_bool PyProof.Rows.boot_bool rfl) pa_nil)))))))), ?_⟩
  refine ⟨_, rfl, _, "int", _, rfl, rfl, isi_same _, true, rfl, ?_⟩
  refine iteT ?_
  exact ⟨_, rfl, _, "int", _, rfl, rfl, isi_int_bool, false, rfl, q⟩
theorem ok_is_whole (F : DefAt K mg "is_whole" s_is_whole ["value"]) (T : Txt mg) : Dn P w K mg base "is_whole" 1 ["value"] spWhole := by
  have sc := sc_is_whole
  refine F.ok sc (fun vs H Q E h => ?_) (fun f cdv A outer s H vs Q E hr h => ?_)
  · obtain ⟨z, rfl, _⟩ := h; rfl
  obtain ⟨z, rfl, q⟩ := h
  refine ⟨_, (pss_one (ps_ret (pe_and (pe_callB (clIsi (K := K) rfl (T := "int")) rfl T.b_isinstance PyProof.Rows.boot_isinstance (pa_cons (pv 0) (pa_cons (pe_bltn (v := .ty "int") rfl T.b_int PyProof.Rows.boot_int rfl) pa_nil))) (pe_one (pe_not (pe_callB (clIsi (K := K) rfl (T := "bool")) rfl T.b_isinstance PyProof.Rows.boot_isinstance (pa_cons (pv 0) (pa_cons (pe_bltn (v := .ty "bool") rfl T.b_bool PyProof.Rows.boot_bool rfl) pa_nil)))))))), ?_⟩
  refine ⟨_, rfl, _, "int", _, rfl, rfl, isi_same _, true, rfl, ?_⟩
  refine iteT ?_
  exact ⟨_, rfl, _, "int", _, rfl, rfl, isi_int_bool, false, rfl, q⟩
def spPlace : Sp := fun vs H Q _ => ∃ z n : Int, vs = [.int z, .int n] ∧ Q (.bl (decide (0 ≤ z ∧ z < n))) H
theorem ok_is_place (F : DefAt K mg "is_place" s_is_place ["value", "count"]) (T : Txt mg) (D_is_whole : Dn P w K mg base "is_whole" 1 ["value"] spWhole) : Dn P w K mg base "is_place" 2 ["value", "count"] spPlace := by
  have sc := sc_is_place
  refine F.ok sc (fun vs H Q E h => ?_) (fun f cdv A outer s H vs Q E hr h => ?_)
  · obtain ⟨_, _, rfl, _⟩ := h; rfl
  obtain ⟨z, n, rfl, q⟩ := h
  refine ⟨_, (pss_one (ps_ret (pe_and (pe_dn D_is_whole hr (pa_cons (pv 0) pa_nil)) (pe_one (pe_chain op_le op_lt pe_int (pv 0) (pv 1)))))), ?_⟩
  refine ⟨_, rfl, z, rfl, true, rfl, ?_⟩
  refine iteT ?_
  refine ⟨_, rfl, _, _, rfl, rfl, decide (0 ≤ z), rfl, ?_⟩
  refine ite2 (fun c => ?_) (fun c => ?_)
  · have h0 : 0 ≤ z := of_decide_eq_true c
    refine ⟨_, rfl, _, _, rfl, rfl, ?_⟩
    show Q (V.bl (decide (z < n))) H
    have e : decide (z < n) = decide (0 ≤ z ∧ z < n) := by
      by_cases h : z < n
      · rw [decide_eq_true h, decide_eq_true ⟨h0, h⟩]
      · rw [decide_eq_false h, decide_eq_false fun k => h k.2]
    rw [e]; exact q
  · have e : decide (0 ≤ z ∧ z < n) = false := decide_eq_false fun k => c (decide_eq_true k.1)
    rw [e] at q; exact q
abbrev MRow := List (Int × Int)
abbrev rMR : Rel MRow := rLst (rT2 rInt rInt)
abbrev rMs : Rel (List MRow) := rLst (rLst (rT2 rInt rInt))
theorem mono_mr : MonoR rMR := mono_lst (mono_t2 mono_int mono_int)
theorem mono_ms : MonoR rMs := mono_lst mono_mr
theorem pr_len {α β : Type} {F : α → β → Prop} : ∀ {xs : List α} {ys : List β}, Paired F xs ys → xs.length = ys.length
  | _, _, .nil => rfl
  | _, _, .cons _ t => by rw [List.length_cons, List.length_cons, pr_len t]
theorem mr_parts {H : Hp} {r : MRow} {v : V} (h : rMR H r v) : ∃ a us, v = .ref a ∧ H a = some (.lst us) ∧ us.length = r.length ∧ ∀ (i : Nat) (p : Int × Int), r[i]? = some p → ∃ t, us[i]? = some (.ref t) ∧ H t = some (.tup [.int p.1, .int p.2]) := by
  obtain ⟨a, us, rfl, ha, pr⟩ := h
  refine ⟨a, us, rfl, ha, (pr_len pr).symm, fun i p hp => ?_⟩
  obtain ⟨u, hu, t, x, y, rfl, ht, rfl, rfl⟩ := L2.Paired.at pr hp
  exact ⟨t, hu, ht⟩
theorem ms_parts {H : Hp} {R : List MRow} {v : V} (h : rMs H R v) : ∃ a us, v = .ref a ∧ H a = some (.lst us) ∧ us.length = R.length ∧ ∀ (i : Nat) (r : MRow), R[i]? = some r → ∃ u, us[i]? = some u ∧ rMR H r u := by
  obtain ⟨a, us, rfl, ha, pr⟩ := h
  exact ⟨a, us, rfl, ha, (pr_len pr).symm, fun i r hr => L2.Paired.at pr hr⟩
structure RwOk (k n : Int) (r : MRow) : Prop where
  ne : r ≠ []
  len : (r.length : Int) = k
  go : ∀ p ∈ r, 0 ≤ p.2 ∧ p.2 < n
def spRowC (K : PySem.W.Frag) : Sp := fun vs H Q E => ∃ (v : V) (r : MRow) (k n : Int), vs = [v, .int k, .int n] ∧ rMR H r v ∧ (RwOk k n r → ∀ H', Same H H' → Q .non H') ∧ (¬ RwOk k n r → ∀ H', Same H H' → E (.ref (clK K "NoMachine")) none H')
theorem ok_rowC (F : DefAt K mg "check_machine_row" s_check_machine_row ["row", "asks", "states"]) (T : Txt mg) (XC : XT K mg "GarthError" xRs xNs) (D_is_place : Dn P w K mg base "is_place" 2 ["value", "count"] spPlace) : DnX P w K mg base "check_machine_row" 3 ["row", "asks", "states"] (spRowC K) := by
  have sc := sc_check_machine_row
  refine F.okX sc (fun vs H Q E h => ?_) (fun f cdv A outer s H vs Q E hr h => ?_)
  · obtain ⟨_, _, _, _, rfl, _⟩ := h; rfl
  obtain ⟨v, r, k, n, rfl, hv, q1, q2⟩ := h
  obtain ⟨a, us, rfl, ha, ul, hat⟩ := mr_parts hv
  refine ⟨_, (pss_cons (ps_if (PW.pt (pw_or (pt_cmpR op_eq (pe_callB (clLen (K := K) rfl) rfl T.b_len PySem.boot_len (pa_cons (pv 0) pa_nil)) pe_int (nomark _)) (pw_or1 (pt_cmpR op_ne (pe_callB (clLen (K := K) rfl) rfl T.b_len PySem.boot_len (pa_cons (pv 0) pa_nil)) (pv 1) (nomark _)))))
      (pss_one (ps_raise raisesR (XC.m "NoMachine" (by decide)) (XC.exc "NoMachine" (by decide)) (pa_cons pe_str pa_nil)))
      pss_nil)
      (pss_one (ps_for PassesOwn.leaving rfl (pi_list (pv 0)) (pg_name (i := 3) sc.nd rfl (Or.inl rfl))
      (pss_one (ps_if (pt_not (pt_val (pe_dn D_is_place hr (pa_cons (pe_ix (ixT (K := K) rfl) (pv 3) pe_int (fun _ _ => rfl)) (pa_cons (pv 2) pa_nil)))))
      (pss_one (ps_raise raisesR (XC.m "NoMachine" (by decide)) (XC.exc "NoMachine" (by decide)) (pa_cons pe_str pa_nil)))
      pss_nil))))), ?_⟩
  refine ⟨_, rfl, a, _, rfl, .inl (SqL.of ha), rfl, _, rfl, ?_⟩
  refine ite2 (fun c => ?_) (fun c => ?_)
  · refine iteT ?_
    have c' := of_decide_eq_true c
    have c2 : ((us.length : Nat) : Int) = 0 := by injection c'
    exact ⟨(by show 1 ≤ sizeLine; decide), q2 (fun z => z.ne (List.length_eq_zero_iff.mp (by omega))) _ (Same.refl _)⟩
  have hne : r ≠ [] := fun z => c (by subst z; have : us = [] := List.length_eq_zero_iff.mp ul; rw [this]; rfl)
  refine ⟨_, rfl, a, _, rfl, .inl (SqL.of ha), _, rfl, rfl, _, rfl, ?_⟩
  by_cases hk : (r.length : Int) = k
  rotate_left
  · refine ite2 (fun c => ?_) (fun c => ?_)
    · exact ⟨(by show 1 ≤ sizeLine; decide), q2 (fun z => hk z.len) _ (Same.refl _)⟩
    · refine absurd ?_ c
      show (!decide (V.int ((us.length : Nat) : Int) = V.int k)) = true
      rw [decide_eq_false (fun z => hk (by injection z with z; omega))]; rfl
  refine ite2 (fun c => ?_) (fun c => ?_)
  · exfalso
    have c' : (!decide (V.int ((us.length : Nat) : Int) = V.int k)) = true := c
    rw [decide_eq_true (by rw [ul, hk])] at c'
    cases c'
  refine ⟨_, rfl, a, rfl, ⟨_, SqL.of ha⟩, for_list (K := K) (a := a) (xs := us) (fun i σ H2 => H2 = H ∧ (∃ y : Option V, σ = [some (.ref a), some (.int k), some (.int n), y]) ∧ ∀ (j : Nat) (p : Int × Int), j < i → r[j]? = some p → 0 ≤ p.2 ∧ p.2 < n) ⟨rfl, ⟨_, rfl⟩, fun j _ z => absurd z (Nat.not_lt_zero j)⟩ (fun i σ H2 _ h => ?_) (fun i x σ H2 hi h => ?_) (fun σ H2 h => ?_)⟩
  · obtain ⟨rfl, _⟩ := h; exact SqL.of ha
  · obtain ⟨rfl, ⟨y, rfl⟩, hk2⟩ := h
    have il : i < r.length := by rw [← ul]; exact (List.getElem?_eq_some_iff.mp hi).1
    obtain ⟨t, hu, ht⟩ := hat i _ (List.getElem?_eq_getElem il)
    rw [hi] at hu
    injection hu with hu
    subst hu
    refine ⟨_, rfl, t, _, _, _, rfl, rfl, SqT.of ht, atI_nat (j := 1) rfl, _, rfl, r[i].2, n, rfl, _, rfl, ?_⟩
    refine ite2 (fun c => ?_) (fun c => ?_)
    · exact ⟨(by show 1 ≤ sizeLine; decide), q2 (fun z => by have := z.go _ (List.getElem_mem il); simp [this] at c) _ (Same.refl _)⟩
    · refine ⟨rfl, ⟨_, rfl⟩, fun j p hj hp => ?_⟩
      by_cases e : j = i
      · subst e
        rw [List.getElem?_eq_getElem il] at hp
        injection hp with hp
        subst hp
        simpa using c
      · exact hk2 j p (by omega) hp
  · obtain ⟨rfl, _, hk2⟩ := h
    refine q1 ⟨hne, hk, fun p hp => ?_⟩ _ (Same.refl _)
    obtain ⟨j, hj⟩ := List.getElem?_of_mem hp
    exact hk2 j p (by have := (List.getElem?_eq_some_iff.mp hj).1; omega) hj
structure MOk (s : Int) (R : List MRow) : Prop where
  st : 0 ≤ s ∧ s < R.length
  go : ∀ r ∈ R, RwOk ((R.headD []).length : Int) R.length r
def spCM (K : PySem.W.Frag) : Sp := fun vs H Q E => ∃ (z : Int) (v : V) (R : List MRow), vs = [.int z, v] ∧ rMs H R v ∧ (MOk z R → ∀ H', Same H H' → Q .non H') ∧ (¬ MOk z R → ∀ H', Same H H' → E (.ref (clK K "NoMachine")) none H')
theorem ok_cm (F : DefAt K mg "check_machine" s_check_machine ["start", "rows"]) (T : Txt mg) (XC : XT K mg "GarthError" xRs xNs) (D_is_place : Dn P w K mg base "is_place" 2 ["value", "count"] spPlace) (D_check_machine_row : DnX P w K mg base "check_machine_row" 3 ["row", "asks", "states"] (spRowC K)) : DnX P w K mg base "check_machine" 4 ["start", "rows"] (spCM K) := by
  have sc := sc_check_machine
  refine F.okX sc (fun vs H Q E h => ?_) (fun f cdv A outer s H vs Q E hr h => ?_)
  · obtain ⟨_, _, _, rfl, _⟩ := h; rfl
  obtain ⟨z, v, R, rfl, hv, q1, q2⟩ := h
  obtain ⟨a, us, rfl, ha, ul, hat⟩ := ms_parts hv
  refine ⟨_, (pss_cons (ps_if (pt_not (pt_val (pe_dn D_is_place hr (pa_cons (pv 0) (pa_cons (pe_callB (clLen (K := K) rfl) rfl T.b_len PySem.boot_len (pa_cons (pv 1) pa_nil)) pa_nil)))))
      (pss_one (ps_raise raisesR (XC.m "NoMachine" (by decide)) (XC.exc "NoMachine" (by decide)) (pa_cons pe_str pa_nil)))
      pss_nil)
      (pss_one (ps_for PassesOwn.leaving rfl (pi_list (pv 1)) (pg_name (i := 2) sc.nd rfl (Or.inl rfl))
      (pss_one (ps_expr (pe_dnX passR D_check_machine_row hr (pa_cons (pv 2) (pa_cons (pe_callB (clLen (K := K) rfl) rfl T.b_len PySem.boot_len (pa_cons (pe_ix (ixL (K := K) rfl) (pv 1) pe_int (fun _ _ => rfl)) pa_nil)) (pa_cons (pe_callB (clLen (K := K) rfl) rfl T.b_len PySem.boot_len (pa_cons (pv 1) pa_nil)) pa_nil))))))))), ?_⟩
  refine ⟨_, rfl, _, rfl, a, _, rfl, .inl (SqL.of ha), z, _, rfl, _, rfl, ?_⟩
  by_cases hz : 0 ≤ z ∧ z < ((us.length : Nat) : Int)
  rotate_left
  · rw [decide_eq_false hz]
    exact iteT ⟨(by show 1 ≤ sizeLine; decide), q2 (fun y => hz (by rw [ul]; exact y.st)) _ (Same.refl _)⟩
  rw [decide_eq_true hz]
  refine iteF ?_
  have h0 : 0 < R.length := by omega
  obtain ⟨u0, hu0, r0⟩ := hat 0 _ (List.getElem?_eq_getElem h0)
  obtain ⟨a0, us0, rfl, ha0, ul0, _⟩ := mr_parts r0
  have hd : R.headD [] = R[0] := by cases R with | nil => exact absurd h0 (Nat.lt_irrefl 0) | cons x y => rfl
  refine ⟨_, rfl, a, rfl, ⟨_, SqL.of ha⟩, for_list (K := K) (a := a) (xs := us) (fun i σ H2 => Same H H2 ∧ (∃ y : Option V, σ = [some (.int z), some (.ref a), y]) ∧ ∀ (j : Nat) (r : MRow), j < i → R[j]? = some r → RwOk (R[0].length : Int) R.length r) ⟨Same.refl _, ⟨_, rfl⟩, fun j _ z => absurd z (Nat.not_lt_zero j)⟩ (fun i σ H2 _ h => SqL.of (h.1 _ _ ha)) (fun i x σ H2 hi h => ?_) (fun σ H2 h => ?_)⟩
  · obtain ⟨s2, ⟨y, rfl⟩, hk2⟩ := h
    have il : i < R.length := by rw [← ul]; exact (List.getElem?_eq_some_iff.mp hi).1
    obtain ⟨u, hu, hr'⟩ := hat i _ (List.getElem?_eq_getElem il)
    rw [hi] at hu
    injection hu with hu
    subst hu
    refine ⟨_, rfl, _, rfl, a, _, _, _, rfl, rfl, SqL.of (s2 _ _ ha), atI_nat (j := 0) hu0, a0, _, rfl, .inl (SqL.of (s2 _ _ ha0)), _, rfl, a, _, rfl, .inl (SqL.of (s2 _ _ ha)), _, R[i], _, _, rfl, mono_mr.up s2 hr', fun ok H3 s3 => ?_, fun no H3 s3 => ?_⟩
    · refine ⟨s2.trans s3, ⟨_, rfl⟩, fun j r hj hr => ?_⟩
      by_cases e : j = i
      · subst e
        rw [List.getElem?_eq_getElem il] at hr
        injection hr with hr
        subst hr
        rw [ul0, ul] at ok
        exact ok
      · exact hk2 j r (by omega) hr
    · refine q2 (fun z => no ?_) _ (s2.trans s3)
      have := z.go _ (List.getElem_mem il)
      rw [hd] at this
      rw [ul0, ul]; exact this
  · obtain ⟨s2, _, hk2⟩ := h
    refine q1 ⟨by omega, fun r hr => ?_⟩ _ s2
    obtain ⟨j, hj⟩ := List.getElem?_of_mem hr
    rw [hd]
    exact hk2 j r (by have := (List.getElem?_eq_some_iff.mp hj).1; omega) hj
def spMO (K : PySem.W.Frag) : Sp := fun vs H Q E => ∃ (z : Int) (v : V) (R : List MRow), vs = [.int z, v] ∧ rMs H R v ∧ R.length ≤ 1000 ∧ (∀ r ∈ R, r.length ≤ 1000) ∧ (MOk z R → ∀ u H', Same H H' → rT2 rInt rMs H' (z, R) u → Q u H') ∧ (¬ MOk z R → ∀ H', Same H H' → E (.ref (clK K "NoMachine")) none H')
theorem ok_mo (F : DefAt K mg "machine_of" s_machine_of ["start", "rows"]) (T : Txt mg) (XC : XT K mg "GarthError" xRs xNs) (D_check_machine : DnX P w K mg base "check_machine" 4 ["start", "rows"] (spCM K)) : DnX P w K mg base "machine_of" 5 ["start", "rows"] (spMO K) := by
  have sc := sc_machine_of
  refine F.okX sc (fun vs H Q E h => ?_) (fun f cdv A outer s H vs Q E hr h => ?_)
  · obtain ⟨_, _, _, rfl, _⟩ := h; rfl
  obtain ⟨z, v, R, rfl, hv, few, few2, q1, q2⟩ := h
  obtain ⟨a, us, rfl, ha, ul, hat⟩ := ms_parts hv
  refine ⟨_, (pss_cons (ps_expr (pe_dnX passR D_check_machine hr (pa_cons (pv 0) (pa_cons (pv 1) pa_nil))))
      (pss_one (ps_ret (pe_tup (pa_cons (pv 0) (pa_cons (pe_lc (defScope s_machine_of) ["start", "rows"] ["row"] 1 [] (pi_list (pv 1)) (fun _ _ _ _ _ _ => (ptg_name (show List.Nodup (["row"] : List Str) by decide +kernel) rfl rfl)) (fun _ _ _ _ _ _ => pts_nil) (fun _ _ _ _ _ _ => (by exact (pe_lcN2  ["row"] ["step"] 1 [] (pi_list0 (pv 0)) (fun _ _ _ _ _ _ => (ptg_name (show List.Nodup (["step"] : List Str) by decide +kernel) rfl rfl)) (fun _ _ _ _ _ _ => pts_nil) (fun _ _ _ _ _ _ => (pe_tup (pa_cons (pe_ix (ixT (K := K) rfl) (pv 0) pe_int (fun _ _ => rfl)) (pa_cons (pe_ix (ixT (K := K) rfl) (pv 0) pe_int (fun _ _ => rfl)) pa_nil)))))))) pa_nil)))))), ?_⟩
  refine ⟨_, rfl, _, rfl, z, _, R, rfl, hv, fun ok H1 s1 => ?_, q2⟩
  refine ⟨_, rfl, _, rfl, a, rfl, ⟨_, SqL.of (s1 _ _ ha)⟩, comp_listD (K := K) (a := a) (xs := us) (fun i ys H3 => Same H1 H3 ∧ Paired (rMR H3) (R.take i) ys) ⟨Same.refl _, .nil⟩ (small (m := 1000) (by omega)) (fun i ys H3 hi h => ?_) (fun i v ys H3 hi h => ?_) (fun ys H3 h lb hlb => ?_)⟩
  · obtain ⟨s3, p3⟩ := h
    refine ⟨SqL.of (s3 _ _ (s1 _ _ ha)), ?_⟩
    rw [← pr_len p3]; exact List.length_take_le _ _
  · obtain ⟨s3, p3⟩ := h
    have il : i < R.length := by rw [← ul]; exact (List.getElem?_eq_some_iff.mp hi).1
    obtain ⟨u, hu, hr'⟩ := hat i _ (List.getElem?_eq_getElem il)
    rw [hi] at hu
    injection hu with hu
    subst hu
    obtain ⟨ai, ui, rfl, hai, uli, hati⟩ := mr_parts (mono_mr.up (s1.trans s3) hr')
    have fi := few2 _ (List.getElem_mem il)
    refine comp_yes ?_
    refine ⟨_, rfl, ai, rfl, ⟨_, SqL.of hai⟩, comp_listD (K := K0) (a := ai) (xs := ui) (fun j zs H4 => Same H3 H4 ∧ Paired (rT2 rInt rInt H4) (R[i].take j) zs) ⟨Same.refl _, .nil⟩ (small (m := 1000) (by omega)) (fun j zs H4 hj h => ?_) (fun j v zs H4 hj h => ?_) (fun zs H4 h lc hlc => ?_)⟩
    · obtain ⟨s4, p4⟩ := h
      refine ⟨SqL.of (s4 _ _ hai), ?_⟩
      rw [← pr_len p4]; exact List.length_take_le _ _
    · obtain ⟨s4, p4⟩ := h
      have jl : j < R[i].length := by rw [← uli]; exact (List.getElem?_eq_some_iff.mp hj).1
      obtain ⟨t, ht', ht⟩ := hati j _ (List.getElem?_eq_getElem jl)
      rw [hj] at ht'
      injection ht' with ht'
      subst ht'
      refine comp_yes ?_
      refine ⟨_, rfl, t, _, _, _, rfl, rfl, SqT.of (s4 _ _ ht), atI_nat (j := 0) rfl, _, rfl, t, _, _, _, rfl, rfl, SqT.of (s4 _ _ ht), atI_nat (j := 1) rfl, (by show 2 ≤ sizeLine; decide), fun tn htn => ?_⟩
      refine ⟨s4.trans (same_upd htn _), ?_⟩
      rw [List.take_succ, List.getElem?_eq_getElem jl]
      exact L2.Paired.app (paired_mono (mono_t2 mono_int mono_int) (same_upd htn _) p4) (.cons ⟨tn, _, _, rfl, upd_same, rfl, rfl⟩ .nil)
    · obtain ⟨s4, p4⟩ := h
      rw [uli, List.take_length] at p4
      have s5 := s4.trans (same_upd hlc (.lst zs))
      refine ⟨s3.trans s5, ?_⟩
      rw [List.take_succ, List.getElem?_eq_getElem il]
      exact L2.Paired.app (paired_mono mono_mr s5 p3) (.cons ⟨lc, zs, rfl, upd_same, paired_mono (mono_t2 mono_int mono_int) (same_upd hlc _) p4⟩ .nil)
  · obtain ⟨s3, p3⟩ := h
    rw [ul, List.take_length] at p3
    refine ⟨(by show 2 ≤ sizeLine; decide), fun tp htp => ?_⟩
    have s4 := same_upd hlb (.lst ys)
    have s5 := same_upd htp (.tup [.int z, .ref lb])
    exact q1 ok _ _ (s1.trans (s3.trans (s4.trans s5))) ⟨tp, _, _, rfl, upd_same, rfl, lb, ys, rfl, s5 _ _ upd_same, paired_mono mono_mr (s4.trans s5) p3⟩
theorem at_int {us : List V} {z : Int} {u : V} (h0 : 0 ≤ z) (h : us[z.toNat]? = some u) : atI us z = some u := by
  obtain ⟨n, rfl⟩ := Int.eq_ofNat_of_zero_le h0
  exact atI_nat (j := n) h
def mch (R : List MRow) : Mch := ⟨(R.headD []).length, fun p a => ((R.getD p []).getD a (0, 0)).1, fun p a => ((R.getD p []).getD a (0, 0)).2.toNat⟩
structure MG (R : List MRow) : Prop where
  pos : 0 < R.length
  few : R.length ≤ 160
  fw2 : ∀ r ∈ R, r.length ≤ 20
  go : ∀ r ∈ R, RwOk ((R.headD []).length : Int) R.length r
theorem MG.at {R : List MRow} (g : MG R) {p a : Nat} (hp : p < R.length) (ha : a < (mch R).asks) : ∃ r x, R[p]? = some r ∧ r[a]? = some x ∧ x.1 = (mch R).ans p a ∧ x.2 = (((mch R).nxt p a : Nat) : Int) ∧ (mch R).nxt p a < R.length ∧ r.length = (mch R).asks := by
  have ok := g.go _ (List.getElem_mem hp)
  have hl := ok.len
  have ha' : a < (R.headD []).length := ha
  have hal : a < R[p].length := by omega
  have go := ok.go _ (List.getElem_mem hal)
  have e : (R.getD p []).getD a (0, 0) = R[p][a] := by
    rw [List.getD_eq_getElem?_getD, List.getD_eq_getElem?_getD, List.getElem?_eq_getElem hp, Option.getD_some, List.getElem?_eq_getElem hal, Option.getD_some]
  refine ⟨R[p], R[p][a], List.getElem?_eq_getElem hp, List.getElem?_eq_getElem hal, ?_, ?_, ?_, ?_⟩
  · show _ = ((R.getD p []).getD a (0, 0)).1; rw [e]
  · show _ = ((((R.getD p []).getD a (0, 0)).2.toNat : Nat) : Int); rw [e]; omega
  · show ((R.getD p []).getD a (0, 0)).2.toNat < _; rw [e]; omega
  · show _ = (R.headD []).length; omega
theorem MG.nxt {R : List MRow} (g : MG R) : ∀ p a, p < R.length → a < (mch R).asks → (mch R).nxt p a < R.length := fun p a hp ha => by
  obtain ⟨_, _, _, _, _, _, h, _⟩ := g.at hp ha; exact h
theorem MG.apos {R : List MRow} (g : MG R) : 0 < (mch R).asks := by
  have h0 := g.pos
  have := (g.go _ (List.getElem_mem h0)).ne
  have hl := (g.go _ (List.getElem_mem h0)).len
  show 0 < (R.headD []).length
  have : 0 < R[0].length := List.length_pos_iff.mpr this
  omega
theorem MG.a20 {R : List MRow} (g : MG R) : (mch R).asks ≤ 20 := by
  have h0 := g.pos
  have hl := (g.go _ (List.getElem_mem h0)).len
  have := g.fw2 _ (List.getElem_mem h0)
  show (R.headD []).length ≤ 20
  omega
def tN (t : List Nat) : List V := t.map fun (c : Nat) => V.int (c : Int)
theorem tN_len (t : List Nat) : (tN t).length = t.length := List.length_map _
theorem tN_at {t : List Nat} {p : Nat} (h : p < t.length) : (tN t)[p]? = some (V.int ((t.getD p 0 : Nat) : Int)) := by
  unfold tN
  rw [List.getElem?_map, List.getElem?_eq_getElem h, List.getD_eq_getElem?_getD, List.getElem?_eq_getElem h]; rfl
def sgt (t : List Nat) (r : MRow) : MRow := r.map fun p => (p.1, ((t.getD p.2.toNat 0 : Nat) : Int))
def spSights : Sp := fun vs H Q _ => ∃ (v : V) (r : MRow) (ta : Addr) (t : List Nat), vs = [v, .ref ta] ∧ rMR H r v ∧ H ta = some (.lst (tN t)) ∧ r.length ≤ 1000 ∧ (∀ p ∈ r, 0 ≤ p.2 ∧ p.2 < t.length) ∧ ∀ u H', Same H H' → rMR H' (sgt t r) u → Q u H'
theorem ok_sights (F : DefAt K mg "sights" s_sights ["row", "table"]) (T : Txt mg) : Dn P w K mg base "sights" 1 ["row", "table"] spSights := by
  have sc := sc_sights
  refine F.ok sc (fun vs H Q E h => ?_) (fun f cdv A outer s H vs Q E hr h => ?_)
  · obtain ⟨_, _, _, _, rfl, _⟩ := h; rfl
  obtain ⟨v, r, ta, t, rfl, hv, hta, few, go, q⟩ := h
  obtain ⟨a, us, rfl, ha, ul, hat⟩ := mr_parts hv
  refine ⟨_, (pss_one (ps_ret (pe_lc (defScope s_sights) ["row", "table"] ["step", "table"] 1 [1] (pi_list (pv 0)) (fun _ _ _ _ _ _ => (ptg_name (show List.Nodup (["step", "table"] : List Str) by decide +kernel) rfl rfl)) (fun _ _ _ _ _ _ => pts_nil) (fun _ _ _ _ _ _ => (pe_tup (pa_cons (pe_ix (ixT (K := K) rfl) (pv 0) pe_int (fun _ _ => rfl)) (pa_cons (pe_ix (ixL (K := K) rfl) (pv 1) (pe_ix (ixT (K := K) rfl) (pv 0) pe_int (fun _ _ => rfl)) (fun _ _ => rfl)) pa_nil))))))), ?_⟩
  refine ⟨_, rfl, a, rfl, ⟨_, SqL.of ha⟩, comp_listD (K := K) (a := a) (xs := us) (fun i ys H3 => Same H H3 ∧ Paired (rT2 rInt rInt H3) (sgt t (r.take i)) ys) ⟨Same.refl _, .nil⟩ (small (m := 1000) (by omega)) (fun i ys H3 hi h => ?_) (fun i v ys H3 hi h => ?_) (fun ys H3 h lb hlb => ?_)⟩
  · obtain ⟨s3, p3⟩ := h
    refine ⟨SqL.of (s3 _ _ ha), ?_⟩
    rw [← pr_len p3]; unfold sgt; rw [List.length_map]; exact List.length_take_le _ _
  · obtain ⟨s3, p3⟩ := h
    have il : i < r.length := by rw [← ul]; exact (List.getElem?_eq_some_iff.mp hi).1
    obtain ⟨tt, hu, ht⟩ := hat i _ (List.getElem?_eq_getElem il)
    rw [hi] at hu
    injection hu with hu
    subst hu
    have g := go _ (List.getElem_mem il)
    have hn : r[i].2.toNat < t.length := by omega
    refine comp_yes ?_
    refine ⟨_, rfl, tt, _, _, _, rfl, rfl, SqT.of (s3 _ _ ht), atI_nat (j := 0) rfl, _, rfl, _, rfl, tt, _, _, _, rfl, rfl, SqT.of (s3 _ _ ht), atI_nat (j := 1) rfl, ta, _, _, _, rfl, rfl, SqL.of (s3 _ _ hta), at_int g.1 (tN_at hn), (by show 2 ≤ sizeLine; decide), fun tn htn => ?_⟩
    refine ⟨s3.trans (same_upd htn _), ?_⟩
    unfold sgt at p3 ⊢
    rw [List.take_succ, List.getElem?_eq_getElem il, List.map_append]
    exact L2.Paired.app (paired_mono (mono_t2 mono_int mono_int) (same_upd htn _) p3) (.cons ⟨tn, _, _, rfl, upd_same, rfl, rfl⟩ .nil)
  · obtain ⟨s3, p3⟩ := h
    rw [ul, List.take_length] at p3
    exact q _ _ (s3.trans (same_upd hlb _)) ⟨lb, ys, rfl, upd_same, paired_mono (mono_t2 mono_int mono_int) (same_upd hlb _) p3⟩
def kyR (t : List Nat) (r : MRow) : NK := r.map fun p => [Sum.inl p.1, Sum.inl ((t.getD p.2.toNat 0 : Nat) : Int)]
theorem ky_tt {H : Hp} {t : List Nat} {r : MRow} {vs : List V} (p : Paired (rT2 rInt rInt H) (sgt t r) vs) : Paired (fun x v => ∃ c, v = V.ref c ∧ H c = some (.tup (x.map kV))) (kyR t r) vs := by
  induction r generalizing vs with
  | nil => cases p; exact .nil
  | cons x r ih =>
    cases p with
    | cons h p =>
      refine .cons ?_ (ih p)
      obtain ⟨c, y, z, rfl, hc, e1, e2⟩ := h
      refine ⟨c, rfl, ?_⟩
      rw [hc]
      cases e1; cases e2
      rfl
theorem ky_eq {R : List MRow} (g : MG R) {t : List Nat} {p q : Nat} (hp : p < R.length) (hq : q < R.length) : kyR t (R.getD p []) = kyR t (R.getD q []) ↔ ∀ a, a < (mch R).asks → (mch R).ans p a = (mch R).ans q a ∧ t.getD ((mch R).nxt p a) 0 = t.getD ((mch R).nxt q a) 0 := by
  have rp : ∀ {p : Nat}, p < R.length → ∀ a, (kyR t (R.getD p []))[a]? = if a < (mch R).asks then some [Sum.inl ((mch R).ans p a), Sum.inl ((t.getD ((mch R).nxt p a) 0 : Nat) : Int)] else none := fun {p} hp a => by
    by_cases ha : a < (mch R).asks
    · obtain ⟨r, x, h1, h2, h3, h4, _, _⟩ := g.at hp ha
      rw [if_pos ha]
      unfold kyR
      rw [List.getElem?_map, List.getD_eq_getElem?_getD, h1, Option.getD_some, h2, Option.map_some, h3, h4]; rfl
    · rw [if_neg ha]
      obtain ⟨r, x, h1, h2, h3, h4, _, hl⟩ := g.at hp g.apos
      unfold kyR
      rw [List.getElem?_map, List.getD_eq_getElem?_getD, h1, Option.getD_some, List.getElem?_eq_none (by omega)]; rfl
  constructor
  · intro e a ha
    have z := rp hp a
    rw [e, rp hq a, if_pos ha, if_pos ha] at z
    injection z with z
    injection z with z1 z2
    injection z2 with z2 _
    injection z1 with z1
    injection z2 with z2
    exact ⟨z1.symm, by omega⟩
  · intro h
    refine List.ext_getElem? fun a => ?_
    rw [rp hp a, rp hq a]
    by_cases ha : a < (mch R).asks
    · rw [if_pos ha, if_pos ha, (h a ha).1, (h a ha).2]
    · rw [if_neg ha, if_neg ha]
structure SpI (R : List MRow) (t : List Nat) (D : List NK) (t' : List Nat) (i : Nat) : Prop where
  len : t'.length = i
  ky : ∀ p, p < i → ∃ c, t'[p]? = some c ∧ D[c]? = some (kyR t (R.getD p []))
  nd : D.Nodup
  on : ∀ c, c < D.length → ∃ p, p < i ∧ t'[p]? = some c
theorem SpI.few {R : List MRow} {t : List Nat} {D : List NK} {t' : List Nat} {i : Nat} (h : SpI R t D t' i) : D.length ≤ i := by
  have hsub : ∀ c ∈ List.range D.length, c ∈ t' := fun c hc => by
    obtain ⟨p, _, hp⟩ := h.on c (List.mem_range.mp hc)
    exact List.mem_of_getElem? hp
  have := nodup_subA _ _ List.nodup_range hsub
  rw [List.length_range, h.len] at this
  exact this
theorem SpI.hit {R : List MRow} {t : List Nat} {D : List NK} {t' : List Nat} {i c : Nat} (h : SpI R t D t' i) (hc : D[c]? = some (kyR t (R.getD i []))) : SpI R t D (t' ++ [c]) (i + 1) := by
  refine ⟨by rw [List.length_append, h.len]; rfl, fun p hp => ?_, h.nd, fun e he => ?_⟩
  · rcases Nat.lt_or_ge p i with z | z
    · obtain ⟨e, h1, h2⟩ := h.ky p z
      exact ⟨e, by rw [List.getElem?_append_left (by rw [h.len]; exact z)]; exact h1, h2⟩
    · have : p = i := by omega
      subst this
      exact ⟨c, by rw [List.getElem?_append_right (by rw [h.len]; omega), h.len, Nat.sub_self]; rfl, hc⟩
  · obtain ⟨p, h1, h2⟩ := h.on e he
    exact ⟨p, by omega, by rw [List.getElem?_append_left (by rw [h.len]; exact h1)]; exact h2⟩
theorem SpI.new {R : List MRow} {t : List Nat} {D : List NK} {t' : List Nat} {i : Nat} (h : SpI R t D t' i) (hn : kyR t (R.getD i []) ∉ D) : SpI R t (D ++ [kyR t (R.getD i [])]) (t' ++ [D.length]) (i + 1) := by
  refine ⟨by rw [List.length_append, h.len]; rfl, fun p hp => ?_, List.nodup_append.mpr ⟨h.nd, by simp, fun a ha b hb e => ?_⟩, fun e he => ?_⟩
  · rcases Nat.lt_or_ge p i with z | z
    · obtain ⟨e, h1, h2⟩ := h.ky p z
      exact ⟨e, by rw [List.getElem?_append_left (by rw [h.len]; exact z)]; exact h1, by rw [List.getElem?_append_left (List.getElem?_eq_some_iff.mp h2).1]; exact h2⟩
    · have : p = i := by omega
      subst this
      exact ⟨D.length, by rw [List.getElem?_append_right (by rw [h.len]; omega), h.len, Nat.sub_self]; rfl, by simp⟩
  · have : b = kyR t (R.getD i []) := by simpa using hb
    rw [e, this] at ha; exact hn ha
  · rcases Nat.lt_or_ge e D.length with z | z
    · obtain ⟨p, h1, h2⟩ := h.on e z
      exact ⟨p, by omega, by rw [List.getElem?_append_left (by rw [h.len]; exact h1)]; exact h2⟩
    · have : e = D.length := by rw [List.length_append, List.length_singleton] at he; omega
      subst this
      exact ⟨i, by omega, by rw [List.getElem?_append_right (by rw [h.len]; omega), h.len, Nat.sub_self]; rfl⟩
def tF (t : List Nat) : Nat → Nat := fun p => t.getD p 0
theorem SpI.num {R : List MRow} {t : List Nat} {D : List NK} {t' : List Nat} (g : MG R) (h : SpI R t D t' R.length) : Num R.length (D.length - 1) (tF t') ∧ ∀ p q, p < R.length → q < R.length → (tF t' p = tF t' q ↔ ∀ a, a < (mch R).asks → (mch R).ans p a = (mch R).ans q a ∧ tF t ((mch R).nxt p a) = tF t ((mch R).nxt q a)) := by
  have gt : ∀ {p c : Nat}, t'[p]? = some c → tF t' p = c := fun {p c} h => by unfold tF; rw [List.getD_eq_getElem?_getD, h]; rfl
  refine ⟨⟨fun p hp => ?_, fun c hc => ?_⟩, fun p q hp hq => ?_⟩
  · obtain ⟨c, h1, h2⟩ := h.ky p hp
    rw [gt h1]
    have := (List.getElem?_eq_some_iff.mp h2).1
    omega
  · obtain ⟨c0, h1, h2⟩ := h.ky 0 g.pos
    have := (List.getElem?_eq_some_iff.mp h2).1
    obtain ⟨p, h3, h4⟩ := h.on c (by omega)
    exact ⟨p, h3, gt h4⟩
  · obtain ⟨c, h1, h2⟩ := h.ky p hp
    obtain ⟨e, h3, h4⟩ := h.ky q hq
    rw [gt h1, gt h3]
    unfold tF
    rw [← ky_eq g hp hq]
    constructor
    · rintro rfl
      rw [h2] at h4
      injection h4
    · intro z
      rw [← z] at h4
      exact (List.getElem?_inj (List.getElem?_eq_some_iff.mp h2).1 h.nd).mp (h2.trans h4.symm)
def TUp (H H' : Hp) : Prop := ∀ b us, H b = some (.tup us) → H' b = some (.tup us)
theorem tt_up {H H' : Hp} {k : NK} {b : Addr} (h : TTk H k b) (u : TUp H H') : TTk H' k b := by
  obtain ⟨vs, hb, p⟩ := h
  exact ⟨vs, u _ _ hb, L2.Paired.imp' (fun x v z => by obtain ⟨c, rfl, hc⟩ := z; exact ⟨c, rfl, u _ _ hc⟩) p⟩
theorem TUp.same {H H' : Hp} (s : Same H H') : TUp H H' := fun b us h => s _ _ h
theorem TUp.put {H : Hp} {d : Addr} {o o' : HO} (h : H d = some o) (ho : ∀ us, o ≠ .tup us) : TUp H (upd H d o') := fun b us e => by
  rw [upd_ne (fun z => by rw [z, h] at e; injection e with e; exact ho _ e)]; exact e
def DnI (H : Hp) (D : List NK) (xs : List (NK × Addr × V)) : Prop := Paired (fun (k : Nat × NK) (x : NK × Addr × V) => x.1 = k.2 ∧ x.2.2 = V.int (k.1 : Int) ∧ TTk H x.1 x.2.1) ((List.range D.length).zip D) xs
theorem DnI.len {H : Hp} {D : List NK} {xs : List (NK × Addr × V)} (h : DnI H D xs) : xs.length = D.length := by
  have := pr_len h
  simp at this
  omega
theorem DnI.get {H : Hp} {D : List NK} {xs : List (NK × Addr × V)} (h : DnI H D xs) {j : Nat} (hj : j < D.length) : ∃ x, xs[j]? = some x ∧ D[j]? = some x.1 ∧ x.2.2 = V.int (j : Int) ∧ TTk H x.1 x.2.1 := by
  obtain ⟨x, h1, h2, h3, h4⟩ := L2.Paired.at h (show ((List.range D.length).zip D)[j]? = some (j, D[j]) by
    rw [List.getElem?_eq_getElem (by simp; exact hj)]; simp)
  exact ⟨x, h1, by rw [h2]; exact List.getElem?_eq_getElem hj, h3, h4⟩
theorem DnI.tt {H : Hp} {D : List NK} {xs : List (NK × Addr × V)} (h : DnI H D xs) : ∀ x ∈ xs, TTk H x.1 x.2.1 := fun x hx => by
  obtain ⟨j, hj⟩ := List.getElem?_of_mem hx
  have hl := (List.getElem?_eq_some_iff.mp hj).1
  obtain ⟨y, h1, _, _, h4⟩ := h.get (j := j) (by rw [← h.len]; exact hl)
  rw [hj] at h1
  injection h1 with h1
  subst h1
  exact h4
theorem DnI.up {H H' : Hp} {D : List NK} {xs : List (NK × Addr × V)} (h : DnI H D xs) (u : TUp H H') : DnI H' D xs := L2.Paired.imp' (fun x v z => ⟨z.1, z.2.1, tt_up z.2.2 u⟩) h
theorem DnI.val {H : Hp} {D : List NK} {xs : List (NK × Addr × V)} (h : DnI H D xs) {k : NK} {v : V} (e : nVal xs k = some v) : ∃ j : Nat, D[j]? = some k ∧ v = V.int (j : Int) := by
  unfold nVal at e
  obtain ⟨x, hx, rfl⟩ := Option.map_eq_some_iff.mp e
  have hm := List.mem_of_find?_eq_some hx
  have hk : x.1 = k := by have := List.find?_some hx; simpa using this
  obtain ⟨j, hj⟩ := List.getElem?_of_mem hm
  have hl := (List.getElem?_eq_some_iff.mp hj).1
  obtain ⟨y, h1, h2, h3, _⟩ := h.get (j := j) (by rw [← h.len]; exact hl)
  rw [hj] at h1
  injection h1 with h1
  subst h1
  exact ⟨j, by rw [← hk]; exact h2, h3⟩
theorem DnI.no {H : Hp} {D : List NK} {xs : List (NK × Addr × V)} (h : DnI H D xs) {k : NK} (e : nVal xs k = none) : k ∉ D := fun hk => by
  obtain ⟨j, hj⟩ := List.getElem?_of_mem hk
  obtain ⟨x, h1, h2, _⟩ := h.get (List.getElem?_eq_some_iff.mp hj).1
  rw [hj] at h2
  injection h2 with h2
  unfold nVal at e
  rw [Option.map_eq_none_iff, List.find?_eq_none] at e
  exact e x (List.mem_of_getElem? h1) (decide_eq_true h2.symm)
theorem DnI.snoc {H : Hp} {D : List NK} {xs : List (NK × Addr × V)} (h : DnI H D xs) {k : NK} {b : Addr} (t : TTk H k b) : DnI H (D ++ [k]) (xs ++ [(k, b, V.int (D.length : Int))]) := by
  unfold DnI
  have e : (List.range (D ++ [k]).length).zip (D ++ [k]) = (List.range D.length).zip D ++ [(D.length, k)] := by
    rw [List.length_append, List.length_singleton, List.range_succ, List.zip_append (by simp)]; rfl
  rw [e]
  exact L2.Paired.app h (.cons ⟨rfl, rfl, t⟩ .nil)
def spSplit : Sp := fun vs H Q _ => ∃ (v : V) (R : List MRow) (ta : Addr) (t : List Nat), vs = [v, .ref ta] ∧ rMs H R v ∧ MG R ∧ H ta = some (.lst (tN t)) ∧ t.length = R.length ∧ ∀ (l : Addr) (t' : List Nat) (m : Nat) (H' : Hp), Same H H' → H l = none → H' l = some (.lst (tN t')) → t'.length = R.length → Num R.length m (tF t') → (∀ p q, p < R.length → q < R.length → (tF t' p = tF t' q ↔ ∀ a, a < (mch R).asks → (mch R).ans p a = (mch R).ans q a ∧ tF t ((mch R).nxt p a) = tF t ((mch R).nxt q a))) → Q (.ref l) H'
theorem ok_split (F : DefAt K mg "split_further" s_split_further ["rows", "table"]) (T : Txt mg) (D_sights : Dn P w K mg base "sights" 1 ["row", "table"] spSights) : Dn P w K mg base "split_further" 2 ["rows", "table"] spSplit := by
  have sc := sc_split_further
  refine F.ok sc (fun vs H Q E h => ?_) (fun f cdv A outer s H vs Q E hr h => ?_)
  · obtain ⟨_, _, _, _, rfl, _⟩ := h; rfl
  obtain ⟨v, R, ta, t, rfl, hv, g, hta, tl, q⟩ := h
  obtain ⟨a, us, rfl, ha, ul, hat⟩ := ms_parts hv
  have few := g.few
  refine ⟨_, (pss_cons (ps_set (i := 2) sc.nd rfl (Or.inl rfl) pe_dnewN)
      (pss_cons (ps_set (i := 3) sc.nd rfl (Or.inl rfl) (pe_lst pa_nil))
      (pss_cons (ps_for PassesOwn.never rfl (pi_list (pv 0)) (pg_name (i := 4) sc.nd rfl (Or.inl rfl))
      (pss_one (ps_expr (pe_bm PySem.F.plainAttrs_list PySem.F.slot_list_append PySem.F.type_list_append mt_append (pv 3) (pa_cons (pe_dsetN (hu_n hr 2) (pv 2) (pe_callTy call_tuple_of rfl T.b_tuple PyProof.Rows.boot_tuple (pa_cons (pe_dn D_sights hr (pa_cons (pv 4) (pa_cons (pv 1) pa_nil))) pa_nil)) (pe_callB call_lenN rfl T.b_len PySem.boot_len (pa_cons (pv 2) pa_nil)) ⟨rfl, rfl, rfl, rfl⟩) pa_nil)))))
      (pss_one (ps_ret (pv 3)))))), ?_⟩
  refine fun d hd => ?_
  refine ⟨Nat.zero_le _, fun gl hgl => ?_⟩
  have hgd : gl ≠ d := fun z => by rw [z, upd_same] at hgl; cases hgl
  have hg0 : H gl = none := by rw [upd_ne hgd] at hgl; exact hgl
  have had : a ≠ d := fun z => by rw [z, hd] at ha; cases ha
  have hag : a ≠ gl := fun z => by rw [z, hg0] at ha; cases ha
  refine ⟨_, rfl, a, rfl, ⟨us, SqL.of (by rw [upd_ne hag, upd_ne had]; exact ha)⟩,
    for_list (K := K) (a := a) (xs := us) (fun i σ H2 => ∃ (xs : List (NK × Addr × V)) (D : List NK) (t' : List Nat) (y : Option V), σ = [some (.ref a), some (.ref ta), some (.ref d), some (.ref gl), y] ∧ Same H H2 ∧ H2 d = some (dnO P w d xs) ∧ H2 gl = some (.lst (tN t')) ∧ SpI R t D t' i ∧ DnI H2 D xs) ?_ (fun i σ H2 _ h => ?_) (fun i x σ H2 hi h => ?_) (fun σ H2 h => ?_)⟩
  · refine ⟨[], [], [], _, rfl, (same_upd hd _).trans (same_upd hgl _), by rw [upd_ne (Ne.symm hgd)]; exact upd_same, upd_same, ⟨rfl, fun p hp => absurd hp (Nat.not_lt_zero p), List.nodup_nil, fun c hc => absurd hc (Nat.not_lt_zero c)⟩, .nil⟩
  · obtain ⟨_, _, _, _, _, s2, _⟩ := h
    exact SqL.of (s2 _ _ ha)
  · obtain ⟨xs, D, t', y, rfl, s2, hd2, hg2, sp, dn⟩ := h
    have il : i < R.length := by rw [← ul]; exact (List.getElem?_eq_some_iff.mp hi).1
    obtain ⟨u, hu, hru⟩ := hat i _ (List.getElem?_eq_getElem il)
    rw [hi] at hu
    injection hu with hu
    subst hu
    have go := g.go _ (List.getElem_mem il)
    have f2 := g.fw2 _ (List.getElem_mem il)
    have er : R.getD i [] = R[i] := by rw [List.getD_eq_getElem?_getD, List.getElem?_eq_getElem il]; rfl
    refine ⟨_, rfl, .inl ⟨rfl, _, SqL.of hg2⟩, _, rfl, d, rfl, ⟨xs, hd2⟩, _, rfl, _, rfl, _, R[i], ta, t, rfl, mono_mr.up s2 hru, s2 _ _ hta, by omega, fun p hp => by have := go.go p hp; omega, fun w1 H3 s3 hw1 => ?_⟩
    obtain ⟨la, lvs, rfl, hla, pr⟩ := hw1
    refine ⟨la, lvs, rfl, .inl ⟨SqL.of hla, fun b hb => ?_⟩⟩
    have s4 := s3.trans (same_upd hb (.tup lvs))
    have tk : TTk (upd H3 b (.tup lvs)) (kyR t (R.getD i [])) b := by
      rw [er]
      exact ⟨lvs, upd_same, ky_tt (paired_mono (mono_t2 mono_int mono_int) (same_upd hb _) pr)⟩
    generalize upd H3 b (.tup lvs) = H4 at s4 tk ⊢
    have dn4 := dn.up (TUp.same s4)
    have fw := sp.few
    have xl := dn.len
    refine ⟨_, rfl, d, xs, rfl, s4 _ _ hd2, xs, _, b, s4 _ _ hd2, rfl, smlt (m := 1000) (by omega), dn4.tt, tk, fun v hv => ?_, fun hn => ?_⟩
    · obtain ⟨c, hc, rfl⟩ := dn4.val hv
      refine ⟨gl, tN t', _, rfl, rfl, s4 _ _ hg2, smlt (m := 1000) (by rw [tN_len, sp.len]; omega), ?_⟩
      refine ⟨xs, D, t' ++ [c], _, rfl, (s2.trans s4).put hg0 _, by rw [upd_ne (Ne.symm hgd)]; exact s4 _ _ hd2, ?_, sp.hit hc, dn4.up (TUp.put (s4 _ _ hg2) (fun us z => by cases z))⟩
      rw [upd_same]; unfold tN; rw [List.map_append]; rfl
    · have hnd := dn4.no hn
      have hd5 : upd H4 d (dnO P w d (xs ++ [(kyR t (R.getD i []), b, V.int ((xs.length : Nat) : Int))])) d = some (dnO P w d (xs ++ [(kyR t (R.getD i []), b, V.int ((xs.length : Nat) : Int))])) := upd_same
      have hg5 : upd H4 d (dnO P w d (xs ++ [(kyR t (R.getD i []), b, V.int ((xs.length : Nat) : Int))])) gl = some (.lst (tN t')) := by rw [upd_ne hgd]; exact s4 _ _ hg2
      have s5 : Same H (upd H4 d (dnO P w d (xs ++ [(kyR t (R.getD i []), b, V.int ((xs.length : Nat) : Int))]))) := (s2.trans s4).put hd _
      have dn5 := (dn4.snoc tk).up (TUp.put (o' := dnO P w d (xs ++ [(kyR t (R.getD i []), b, V.int ((xs.length : Nat) : Int))])) (s4 _ _ hd2) (fun us z => by cases z))
      rw [← xl] at dn5
      refine ⟨gl, tN t', _, rfl, rfl, hg5, smlt (m := 1000) (by rw [tN_len, sp.len]; omega), ?_⟩
      refine ⟨_, D ++ [kyR t (R.getD i [])], t' ++ [D.length], _, rfl, s5.put hg0 _, by rw [upd_ne (Ne.symm hgd)]; exact hd5, ?_, sp.new hnd, dn5.up (TUp.put hg5 (fun us z => by cases z))⟩
      rw [upd_same]; unfold tN; rw [List.map_append, xl]; rfl
  · obtain ⟨xs, D, t', y, rfl, s2, hd2, hg2, sp, dn⟩ := h
    rw [ul] at sp
    obtain ⟨n1, n2⟩ := sp.num g
    exact ⟨_, rfl, q gl t' _ _ s2 hg0 hg2 sp.len n1 n2⟩
theorem num_le {n m m' : Nat} {t t' : Nat → Nat} (h : Num n m t) (h' : Num n m' t') (fine : ∀ p q, p < n → q < n → t' p = t' q → t p = t q) : m ≤ m' := by
  have rep : ∀ c, ∃ r, c ≤ m → r < n ∧ t r = c := fun c => by
    by_cases hc : c ≤ m
    · obtain ⟨r, h1, h2⟩ := h.2 c hc
      exact ⟨r, fun _ => ⟨h1, h2⟩⟩
    · exact ⟨0, fun z => absurd z hc⟩
  have sp := fun c => (rep c).choose_spec
  generalize hf : (fun c => (rep c).choose) = f at *
  have hf' : ∀ c, (rep c).choose = f c := fun c => by rw [← hf]
  have nd : ((List.range (m + 1)).map fun c => t' (f c)).Nodup := by
    rw [List.nodup_iff_pairwise_ne, List.pairwise_map]
    refine List.Pairwise.imp_of_mem (fun {a b} ha hb ne e => ne ?_) (List.nodup_iff_pairwise_ne.mp List.nodup_range)
    have h1 := sp a (by have := List.mem_range.mp ha; omega)
    have h2 := sp b (by have := List.mem_range.mp hb; omega)
    rw [hf'] at h1 h2
    rw [← h1.2, ← h2.2]
    exact fine _ _ h1.1 h2.1 e
  have := nodup_subA _ (List.range (m' + 1)) nd fun x hx => by
    obtain ⟨c, hc, rfl⟩ := List.mem_map.mp hx
    have h1 := sp c (by have := List.mem_range.mp hc; omega)
    rw [hf'] at h1
    exact List.mem_range.mpr (by have := h'.1 _ h1.1; omega)
  rw [List.length_map, List.length_range, List.length_range] at this
  omega
theorem num_lt {n m : Nat} {t : Nat → Nat} (h : Num n m t) : m < n := by
  have hid : n = 0 ∨ Num n (n - 1) (fun p => p) := by
    rcases Nat.eq_zero_or_pos n with e | e
    · exact .inl e
    · exact .inr ⟨fun p hp => by show p ≤ n - 1; omega, fun c hc => ⟨c, by omega, rfl⟩⟩
  rcases hid with rfl | hid
  · obtain ⟨p, hp, _⟩ := h.2 0 (Nat.zero_le _)
    exact absurd hp (Nat.not_lt_zero _)
  · have := num_le h hid fun p q _ _ e => by rw [show p = q from e]
    obtain ⟨p, hp, _⟩ := h.2 0 (Nat.zero_le _)
    omega
theorem tN_ints (t : List Nat) : tN t = (t.map fun (c : Nat) => (c : Int)).map V.int := by unfold tN; rw [List.map_map]; rfl
theorem tab_max {n m : Nat} {t : List Nat} (h : Num n m (tF t)) (hl : t.length = n) {M : Int} (h1 : M ∈ t.map fun (c : Nat) => (c : Int)) (h2 : ∀ k ∈ t.map (fun (c : Nat) => (c : Int)), k ≤ M) : M = (m : Int) := by
  obtain ⟨c, hc, rfl⟩ := List.mem_map.mp h1
  obtain ⟨p, hp, e⟩ := h.2 m (Nat.le_refl _)
  have a := h2 (m : Int) (List.mem_map.mpr ⟨m, by rw [← e]; unfold tF; rw [List.getD_eq_getElem?_getD, List.getElem?_eq_getElem (by omega)]; exact List.getElem_mem _, rfl⟩)
  obtain ⟨j, hj⟩ := List.getElem?_of_mem hc
  have jl := (List.getElem?_eq_some_iff.mp hj).1
  have b := h.1 j (by omega)
  unfold tF at b
  rw [List.getD_eq_getElem?_getD, hj] at b
  have b : c ≤ m := b
  omega
def rTab : Rel (List Nat) := fun H t u => ∃ a, u = V.ref a ∧ H a = some (.lst (tN t))
theorem mono_tab : MonoR rTab := ⟨fun H H' x v s h => by obtain ⟨a, rfl, ha⟩ := h; exact ⟨a, rfl, s _ _ ha⟩⟩
structure Tbs (R : List MRow) (ts : List (List Nat)) : Prop where
  pos : 0 < ts.length
  few : ts.length ≤ R.length
  tb : ∀ (k : Nat) t, ts[k]? = some t → t.length = R.length ∧ TbE (mch R) R.length k (tF t)
def Tbs.fin (R : List MRow) (ts : List (List Nat)) : Prop := ∀ t, ts[ts.length - 1]? = some t → ∀ p q, p < R.length → q < R.length → tF t p = tF t q → ∀ s, ¬ tlA (mch R) s p q
def spSplits : Sp := fun vs H Q _ => ∃ (v : V) (R : List MRow), vs = [v] ∧ rMs H R v ∧ MG R ∧ ∀ (l : Addr) (ts : List (List Nat)) (H' : Hp), Same H H' → rLst rTab H' ts (.ref l) → Tbs R ts → Tbs.fin R ts → Q (.ref l) H'
def SplW (R : List MRow) (H : Hp) (a l : Addr) (m : Nat) (σ : St) (H2 : Hp) : Prop := ∃ (ts : List (List Nat)) (t : List Nat) (mx : Nat) (y : Option V), σ = [some (.ref a), some (.ref l), y] ∧ Bld rTab H H2 l (ts ++ [t]) ∧ Tbs R (ts ++ [t]) ∧ Num R.length mx (tF t) ∧ ts.length ≤ mx ∧ m = R.length - ts.length
theorem rep0 : ∀ k : Nat, (List.replicate k [V.int 0]).flatten = tN (List.replicate k 0)
  | 0 => rfl
  | k + 1 => by
    rw [List.replicate_succ, List.flatten_cons, rep0 k, List.replicate_succ]; rfl
theorem tF_rep {k p : Nat} : tF (List.replicate k 0) p = 0 := by
  unfold tF
  rw [List.getD_eq_getElem?_getD, List.getElem?_replicate]
  by_cases c : p < k
  · rw [if_pos c]; rfl
  · rw [if_neg c]; rfl
theorem snoc_get {α : Type} {ts : List α} {t x : α} {k : Nat} (h : (ts ++ [t])[k]? = some x) : ts[k]? = some x ∨ k = ts.length ∧ x = t := by
  rcases Nat.lt_or_ge k ts.length with c | c
  · rw [List.getElem?_append_left c] at h; exact .inl h
  · rw [List.getElem?_append_right c] at h
    have hi : k - ts.length = 0 := by have := (List.getElem?_eq_some_iff.mp h).1; simp at this; omega
    rw [hi] at h
    cases h
    exact .inr ⟨by omega, rfl⟩
theorem pr_snoc {α β : Type} {F : α → β → Prop} {ts : List α} {t : α} {vs : List β} (h : Paired F (ts ++ [t]) vs) : ∃ vs0 u, vs = vs0 ++ [u] ∧ Paired F ts vs0 ∧ F t u := by
  induction ts generalizing vs with
  | nil =>
    cases h with
    | cons h p => cases p; exact ⟨[], _, rfl, .nil, h⟩
  | cons x ts ih =>
    cases h with
    | cons h p =>
      obtain ⟨vs0, u, rfl, p0, hu⟩ := ih p
      exact ⟨_ :: vs0, u, rfl, .cons h p0, hu⟩
theorem ok_splits (F : DefAt K mg "splits" s_splits ["rows"]) (T : Txt mg) (D_split_further : Dn P w K mg base "split_further" 2 ["rows", "table"] spSplit) : Dn P w K mg base "splits" 3 ["rows"] spSplits := by
  have sc := sc_splits
  refine F.ok sc (fun vs H Q E h => ?_) (fun f cdv A outer s H vs Q E hr h => ?_)
  · obtain ⟨_, _, rfl, _⟩ := h; rfl
  obtain ⟨v, R, rfl, hv, g, q⟩ := h
  obtain ⟨a, us, rfl, ha, ul, hat⟩ := ms_parts hv
  have few := g.few
  refine ⟨_, (pss_cons (ps_set (i := 1) sc.nd rfl (Or.inl rfl) (pe_lst (pa_cons (pe_op op_rep (pe_lst (pa_cons pe_int pa_nil)) (pe_callB (clLen (K := K) rfl) rfl T.b_len PySem.boot_len (pa_cons (pv 0) pa_nil))) pa_nil)))
      (pss_one (ps_while PassesOwn.never (pt_val pe_bl)
      (pss_cons (ps_set (i := 2) sc.nd rfl (Or.inl rfl) (pe_dn D_split_further hr (pa_cons (pv 0) (pa_cons (pe_ix (ixL (K := K) rfl) (pv 1) (pe_un un_neg pe_int) (fun _ _ => rfl)) pa_nil))))
      (pss_cons (ps_if (pt_cmpR op_eq (pe_callB (call_maxL rfl) rfl T.b_max PyProof.Rows.boot_max (pa_cons (pv 2) pa_nil)) (pe_callB (call_maxL rfl) rfl T.b_max PyProof.Rows.boot_max (pa_cons (pe_ix (ixL (K := K) rfl) (pv 1) (pe_un un_neg pe_int) (fun _ _ => rfl)) pa_nil)) (nomark _))
      (pss_one (ps_ret (pv 1)))
      pss_nil)
      (pss_one (ps_expr (pe_bm PySem.F.plainAttrs_list PySem.F.slot_list_append PySem.F.type_list_append mt_append (pv 1) (pa_cons (pv 2) pa_nil))))))))), ?_⟩
  refine ⟨(by show 1 ≤ sizeLine; decide), fun p1 h1 => ?_⟩
  have s1 := same_upd h1 (.lst [V.int 0])
  have k1 : upd H p1 (.lst [V.int 0]) p1 = some (.lst [V.int 0]) := upd_same
  generalize upd H p1 (.lst [V.int 0]) = H1 at s1 k1 ⊢
  refine ⟨_, rfl, a, _, rfl, .inl (SqL.of (s1 _ _ ha)), p1, _, _, rfl, rfl, k1, by omega, by omega, small (m := 1000) (by rw [List.length_singleton]; omega), fun p2 h2 => ?_⟩
  rw [show (((us.length : Nat) : Int)).toNat = R.length by omega, rep0]
  refine ⟨(by show 1 ≤ sizeLine; decide), fun l hl => ?_⟩
  have hp2l : p2 ≠ l := fun z => by rw [z, upd_same] at hl; cases hl
  have s3 := (s1.trans (same_upd h2 (.lst (tN (List.replicate R.length 0))))).trans (same_upd hl (.lst [V.ref p2]))
  have hl0 : H l = none := (s1.trans (same_upd h2 (.lst (tN (List.replicate R.length 0))))).free hl
  have i0 : SplW R H a l R.length [some (.ref a), some (.ref l), none] (upd (upd H1 p2 (.lst (tN (List.replicate R.length 0)))) l (.lst [V.ref p2])) := by
    refine ⟨[], List.replicate R.length 0, 0, none, rfl, ⟨hl0, s3, [V.ref p2], upd_same, .cons ⟨p2, rfl, ?_⟩ .nil⟩, ⟨by simp, g.pos, fun k t ht => ?_⟩, ⟨fun p _ => by rw [tF_rep]; exact Nat.le_refl _, fun c hc => ⟨0, g.pos, by rw [tF_rep]; omega⟩⟩, Nat.le_refl _, rfl⟩
    · show newp H (del _ l) p2 = _
      rw [newp_at (s1.free h2), del_at hp2l, upd_ne hp2l]; exact upd_same
    · rcases snoc_get ht with z | ⟨e1, rfl⟩
      · cases z
      · cases e1
        exact ⟨List.length_replicate, fun p q _ _ => ⟨fun _ => trivial, fun _ => by rw [tF_rep, tF_rep]⟩⟩
  refine ⟨SplW R H a l, ⟨_, i0⟩, ?_⟩
  rintro m σ Hx ⟨ts, t, mx, y, rfl, b, tb, nm, lt, rfl⟩
  have hv2 : rMs Hx R (.ref a) := mono_ms.up b.s hv
  obtain ⟨g0, sx, vs, hvs, pr⟩ := b.ex.elim fun vs h => (⟨b.g0, b.s, vs, h.1, h.2⟩ : H l = none ∧ Same H Hx ∧ ∃ vs, Hx l = some (.lst vs) ∧ Paired (rTab (home H Hx l)) (ts ++ [t]) vs)
  obtain ⟨vs0, u, rfl, _, ta, rfl, hta⟩ := pr_snoc pr
  have hta : Hx ta = some (.lst (tN t)) := by
    have h1 : del Hx l ta = some (.lst (tN t)) := newp_same _ _ _ _ hta
    exact del_same _ _ _ _ h1
  have htk := tb.tb ts.length t (by simp)
  have mxn := num_lt nm
  refine ⟨_, rfl, iteT ⟨fun σ' H' => ∃ m', m' < R.length - ts.length ∧ SplW R H a l m' σ' H', fun σ' H' h => h, ?_⟩⟩
  refine ⟨_, rfl, _, rfl, _, rfl, l, _, _, _, rfl, rfl, SqL.of hvs, atI_last vs0 _, _, R, ta, t, rfl, hv2, g, hta, htk.1, fun l' t' m' H3 s3' hl0' hl' tl' nm' eqv => ?_⟩
  have tb' : TbE (mch R) R.length (ts.length + 1) (tF t') := htk.2.next g.nxt eqv
  have fine : ∀ p q, p < R.length → q < R.length → tF t' p = tF t' q → tF t p = tF t q := fun p q hp hq e => (htk.2 p q hp hq).mpr ((tb' p q hp hq).mp e).less
  have ne : ∀ {x : List Nat}, x.length = R.length → (x.map fun (c : Nat) => (c : Int)) ≠ [] := fun {x} hx z => by
    have := congrArg List.length z
    rw [List.length_map, hx] at this
    exact absurd this (Nat.ne_of_gt g.pos)
  refine ⟨_, rfl, l', _, rfl, SqL.of (by rw [← tN_ints]; exact hl'), ne tl', fun M1 a1 a2 => ?_⟩
  rw [tab_max nm' tl' a1 a2]
  refine ⟨_, rfl, _, rfl, l, _, _, _, rfl, rfl, SqL.of (s3' _ _ hvs), atI_last vs0 _, ta, _, rfl, SqL.of (by rw [← tN_ints]; exact s3' _ _ hta), ne htk.1, fun M2 b1 b2 => ?_⟩
  rw [tab_max nm htk.1 b1 b2]
  have b3 := b.go mono_tab s3'
  refine ⟨rfl, _, rfl, ?_⟩
  refine ite2 (fun c => ?_) (fun c => ?_)
  · have e : m' = mx := by
      have := of_decide_eq_true c
      injection this with this
      omega
    subst e
    refine ⟨_, rfl, q l (ts ++ [t]) H3 b3.s ((mono_lst mono_tab).up (newp_same _ _) (b3.done mono_tab)) tb fun t0 ht0 p q hp hq e => ?_⟩
    have et : t0 = t := by
      rw [List.length_append, List.length_singleton, Nat.add_sub_cancel, List.getElem?_append_right (Nat.le_refl _), Nat.sub_self] at ht0
      injection ht0 with ht0
      exact ht0.symm
    subst et
    exact TbE.last g.nxt htk.2 tb' nm nm' hp hq e
  · have hne : m' ≠ mx := fun z => c (by subst z; exact decide_eq_true rfl)
    have hle := num_le nm nm' fine
    have hlt := num_lt nm'
    obtain ⟨vs4, k1, k2, b4⟩ := b.push mono_tab s3' (x := t') (v := .ref l') ⟨l', rfl, by rw [newp_at hl0']; exact hl'⟩
    refine ⟨_, rfl, .inl ⟨rfl, _, SqL.of k1⟩, _, rfl, l, vs4, _, rfl, rfl, k1, smlt (m := 1000) (by rw [k2]; have := tb.few; omega), ?_⟩
    refine ⟨R.length - (ts.length + 1), by omega, ts ++ [t], t', m', _, rfl, b4, ⟨by simp, by simp; omega, fun k t0 ht0 => ?_⟩, nm', by simp; omega, by simp⟩
    rcases snoc_get ht0 with z | ⟨rfl, rfl⟩
    · exact tb.tb k t0 z
    · exact ⟨tl', by rw [List.length_append]; exact tb'⟩
def UnA (t : List Nat) (r1 r2 : MRow) (a : Nat) : Prop := (sgt t r1)[a]? ≠ (sgt t r2)[a]?
def spFirst : Sp := fun vs H Q _ => ∃ (v1 v2 : V) (r1 r2 : MRow) (ta : Addr) (t : List Nat), vs = [v1, v2, .ref ta] ∧ rMR H r1 v1 ∧ rMR H r2 v2 ∧ H ta = some (.lst (tN t)) ∧ r1.length = r2.length ∧ r1.length ≤ 1000 ∧ (∀ p ∈ r1, 0 ≤ p.2 ∧ p.2 < t.length) ∧ (∀ p ∈ r2, 0 ≤ p.2 ∧ p.2 < t.length) ∧ (∃ a, a < r1.length ∧ UnA t r1 r2 a) ∧
  ∀ (a : Nat) (H' : Hp), Same H H' → a < r1.length → UnA t r1 r2 a → (∀ b, b < a → ¬ UnA t r1 r2 b) → Q (.int (a : Int)) H'
theorem ok_first (F : DefAt K mg "first_unlike" s_first_unlike ["row", "other", "table"]) (T : Txt mg) (D_sights : Dn P w K mg base "sights" 1 ["row", "table"] spSights) : Dn P w K mg base "first_unlike" 2 ["row", "other", "table"] spFirst := by
  have sc := sc_first_unlike
  refine F.ok sc (fun vs H Q E h => ?_) (fun f cdv A outer s H vs Q E hr h => ?_)
  · obtain ⟨_, _, _, _, _, _, rfl, _⟩ := h; rfl
  obtain ⟨v1, v2, r1, r2, ta, t, rfl, hv1, hv2, hta, el, few, g1, g2, ex, q⟩ := h
  refine ⟨_, (pss_cons (ps_set (i := 3) sc.nd rfl (Or.inr rfl) (pe_dn D_sights hr (pa_cons (pv 1) (pa_cons (pv 2) pa_nil))))
      (pss_one (ps_ret (pe_ix (ixL (K := K) rfl) (pe_lc (defScope s_first_unlike) ["row", "other", "table", "sight"] ["ask", "seen", "sight"] 2 [3] (pi_enum (K := K) rfl rfl T.b_enumerate (pa_cons (pe_dn D_sights hr (pa_cons (pv 0) (pa_cons (pv 2) pa_nil))) pa_nil)) (fun _ _ _ _ _ _ => (ptg2 (K := K) rfl rfl (show List.Nodup (["ask", "seen", "sight"] : List Str) by decide +kernel) rfl rfl rfl rfl)) (fun _ _ _ _ _ _ => (pts_one (pt_cmpR (op_neD (rcd_t2 eqd_int eqd_int) (hu_n hr 1)) (pv 1) (pe_ix (ixL (K := K) rfl) (pv 2) (pv 0) (fun _ _ => rfl)) (nomark _)))) (fun _ _ _ _ _ _ => (pv 0))) pe_int (fun _ _ => rfl))))), ?_⟩
  refine ⟨_, rfl, _, rfl, _, r2, ta, t, rfl, hv2, hta, by omega, g2, fun u2 H1 s1 hu2 => ?_⟩
  refine ⟨_, rfl, _, rfl, _, r1, ta, t, rfl, mono_mr.up s1 hv1, s1 _ _ hta, by omega, g1, fun u1 H2 s2 hu1 => ?_⟩
  obtain ⟨b1, ws1, rfl, hb1, wl1, at1⟩ := mr_parts hu1
  obtain ⟨b2, ws2, rfl, hb2, wl2, at2⟩ := mr_parts (mono_mr.up s2 hu2)
  have l1 : (sgt t r1).length = r1.length := List.length_map _
  have l2 : (sgt t r2).length = r2.length := List.length_map _
  refine ⟨b1, rfl, ⟨_, SqL.of hb1⟩, comp_enumD (K := K) (a := b1) (xs := ws1) (fun i ys H3 => Same H2 H3 ∧ ys.length ≤ i ∧ ((ys = [] ∧ ∀ b, b < i → ¬ UnA t r1 r2 b) ∨ ∃ (a : Nat) (rest : List V), ys = V.int (a : Int) :: rest ∧ a < i ∧ UnA t r1 r2 a ∧ ∀ b, b < a → ¬ UnA t r1 r2 b)) ⟨Same.refl _, Nat.le_refl _, .inl ⟨rfl, fun b hb => absurd hb (Nat.not_lt_zero b)⟩⟩ (small (m := 1000) (by omega)) (fun i ys H3 hi h => ?_) (fun i x tt ys H3 hi h htt => ?_) (fun ys H3 h lb hlb => ?_)⟩
  · exact ⟨SqL.of (h.1 _ _ hb1), h.2.1⟩
  · obtain ⟨s3, yl, h⟩ := h
    have il : i < r1.length := by have := (List.getElem?_eq_some_iff.mp hi).1; omega
    have i1 : i < (sgt t r1).length := by omega
    have i2 : i < (sgt t r2).length := by omega
    obtain ⟨c1, e1, hc1⟩ := at1 i _ (List.getElem?_eq_getElem i1)
    obtain ⟨c2, e2, hc2⟩ := at2 i _ (List.getElem?_eq_getElem i2)
    rw [hi] at e1
    injection e1 with e1
    subst e1
    have s4 := s3.trans (same_upd htt (.tup [V.int ((i : Nat) : Int), .ref c1]))
    refine ⟨tt, _, rfl, SqT.of upd_same, rfl, ?_⟩
    refine ⟨_, rfl, _, rfl, _, rfl, b2, _, _, _, rfl, rfl, SqL.of (s4 _ _ hb2), atI_nat e2, (sgt t r1)[i], (sgt t r2)[i], ⟨c1, _, _, rfl, s4 _ _ hc1, rfl, rfl⟩, ⟨c2, _, _, rfl, s4 _ _ hc2, rfl, rfl⟩, _, rfl, ?_⟩
    have un : UnA t r1 r2 i ↔ (sgt t r1)[i] ≠ (sgt t r2)[i] := by
      unfold UnA
      rw [List.getElem?_eq_getElem i1, List.getElem?_eq_getElem i2]
      exact ⟨fun h z => h (by rw [z]), fun h z => h (by injection z)⟩
    refine ite2 (fun c => ?_) (fun c => ?_)
    · have hu : UnA t r1 r2 i := un.mpr (by simpa using c)
      refine ⟨_, rfl, s4, by rw [List.length_append]; exact Nat.succ_le_succ yl, .inr ?_⟩
      rcases h with ⟨rfl, h⟩ | ⟨a, rest, rfl, ha, h1, h2⟩
      · exact ⟨i, [], rfl, Nat.lt_succ_self i, hu, h⟩
      · exact ⟨a, _, rfl, by omega, h1, h2⟩
    · have hu : ¬ UnA t r1 r2 i := fun z => c (by have := un.mp z; simpa using this)
      refine ⟨s4, by omega, ?_⟩
      rcases h with ⟨rfl, h⟩ | ⟨a, rest, rfl, ha, h1, h2⟩
      · exact .inl ⟨rfl, fun b hb => by rcases Nat.lt_or_ge b i with z | z; exact h b z; exact (show b = i by omega) ▸ hu⟩
      · exact .inr ⟨a, rest, rfl, by omega, h1, h2⟩
  · obtain ⟨s3, yl, h⟩ := h
    rw [wl1, l1] at h
    rcases h with ⟨rfl, h⟩ | ⟨a, rest, rfl, ha, h1, h2⟩
    · obtain ⟨a, ha, hu⟩ := ex
      exact absurd hu (h a ha)
    · exact ⟨lb, _, _, _, rfl, rfl, SqL.of upd_same, atI_nat (j := 0) rfl, q a _ (s1.trans (s2.trans (s3.trans (same_upd hlb _)))) ha h1 h2⟩
theorem eqv_cut (M : Mch) (p q : Nat) : ∀ N : Nat, ∃ j, j ≤ N ∧ ∀ k, k < N → (Eqv M k p q ↔ k < j)
  | 0 => ⟨0, Nat.le_refl _, fun k hk => absurd hk (Nat.not_lt_zero k)⟩
  | N + 1 => by
    obtain ⟨j, hj, h⟩ := eqv_cut M p q N
    by_cases c : Eqv M N p q
    · have all : ∀ k, k ≤ N → Eqv M k p q := fun k hk => by
        obtain ⟨d, rfl⟩ := Nat.exists_eq_add_of_le hk
        exact c.mono
      exact ⟨N + 1, Nat.le_refl _, fun k hk => ⟨fun _ => hk, fun _ => all k (by omega)⟩⟩
    · refine ⟨j, by omega, fun k hk => ?_⟩
      rcases Nat.lt_or_ge k N with z | z
      · exact h k z
      · have : k = N := by omega
        subst this
        exact ⟨fun e => absurd e c, fun z => by omega⟩
def ApQ (R : List MRow) (one other : Nat) (H : Hp) (Q : VK) : Prop := ((∀ s, ¬ tlA (mch R) s one other) → ∀ H', Same H H' → Q .non H') ∧ ∀ s, Bst (mch R) s one other → ∀ (l : Addr) (H' : Hp), Same H H' → H l = none → H' l = some (.lst (tN s)) → s.length ≤ R.length → Q (.ref l) H'
def spApIn : Sp := fun vs H Q _ => ∃ (v : V) (R : List MRow) (one other : Nat), vs = [v, .int (one : Int), .int (other : Int)] ∧ rMs H R v ∧ MG R ∧ one < R.length ∧ other < R.length ∧ ApQ R one other H Q
def ApP (M : Mch) (p q : Nat) (asks : List Nat) (k one other : Nat) : Prop := (k = 0 → Bst M asks p q) ∧ (0 < k → Eqv M (k - 1) one other ∧ ¬ Eqv M k one other ∧ ∀ s, s.length = k → Bst M s one other → Bst M (asks ++ s) p q)
theorem ApP.step {R : List MRow} (g : MG R) {p q : Nat} {asks : List Nat} {k one other : Nat} (h1 : one < R.length) (h2 : other < R.length) {t : List Nat} (tb : TbE (mch R) R.length k (tF t)) (h : ApP (mch R) p q asks (k + 1) one other) {a : Nat} (ha : a < (mch R).asks)
    (hu : ¬ ((mch R).ans one a = (mch R).ans other a ∧ tF t ((mch R).nxt one a) = tF t ((mch R).nxt other a))) (hf : ∀ b, b < a → (mch R).ans one b = (mch R).ans other b ∧ tF t ((mch R).nxt one b) = tF t ((mch R).nxt other b)) :
    ApP (mch R) p q (asks ++ [a]) k ((mch R).nxt one a) ((mch R).nxt other a) := by
  obtain ⟨e1, e2, e3⟩ := h.2 (Nat.succ_pos k)
  have e1 : Eqv (mch R) k one other := e1
  have n1 := g.nxt one a h1 ha
  have n2 := g.nxt other a h2 ha
  refine ⟨fun hk => ?_, fun hk => ?_⟩
  · subst hk
    refine e3 [a] rfl (Bst.last ha (fun z => hu ⟨z, (tb _ _ n1 n2).mpr trivial⟩) fun b hb => (hf b hb).1)
  · obtain ⟨k, rfl⟩ : ∃ j, k = j + 1 := ⟨k - 1, by omega⟩
    have an : (mch R).ans one a = (mch R).ans other a := (e1 a ha).1
    refine ⟨(e1 a ha).2, fun z => hu ⟨an, (tb _ _ n1 n2).mpr z⟩, fun s hs hb => ?_⟩
    rw [List.append_assoc]
    refine e3 (a :: s) (by simp [hs]) (Bst.cons ha (by rw [hs]; exact e1) hb fun b hb' => ?_)
    rw [hs]
    exact (tb _ _ (g.nxt one b h1 (by omega)) (g.nxt other b h2 (by omega))).mp (hf b hb').2
theorem unA {R : List MRow} (g : MG R) {t : List Nat} {one other a : Nat} (h1 : one < R.length) (h2 : other < R.length) (ha : a < (mch R).asks) : UnA t (R.getD one []) (R.getD other []) a ↔ ¬ ((mch R).ans one a = (mch R).ans other a ∧ tF t ((mch R).nxt one a) = tF t ((mch R).nxt other a)) := by
  obtain ⟨r, x, e1, e2, e3, e4, _⟩ := g.at h1 ha
  obtain ⟨r', x', f1, f2, f3, f4, _⟩ := g.at h2 ha
  unfold UnA sgt
  rw [List.getD_eq_getElem?_getD, List.getD_eq_getElem?_getD, e1, f1, Option.getD_some, Option.getD_some, List.getElem?_map, List.getElem?_map, e2, f2, Option.map_some, Option.map_some, e3, e4, f3, f4]
  unfold tF
  constructor
  · intro h z
    exact h (by rw [z.1]; show some (_, ((t.getD ((mch R).nxt one a) 0 : Nat) : Int)) = some (_, ((t.getD ((mch R).nxt other a) 0 : Nat) : Int)); rw [z.2])
  · intro h z
    injection z with z
    injection z with z1 z2
    exact h ⟨z1, by
      have z2 : ((t.getD ((mch R).nxt one a) 0 : Nat) : Int) = ((t.getD ((mch R).nxt other a) 0 : Nat) : Int) := z2
      omega⟩
theorem ok_apIn (F : DefAt K mg "apart_in" s_apart_in ["rows", "one", "other"]) (T : Txt mg) (D_splits : Dn P w K mg base "splits" 3 ["rows"] spSplits) (D_first_unlike : Dn P w K mg base "first_unlike" 2 ["row", "other", "table"] spFirst) : Dn P w K mg base "apart_in" 4 ["rows", "one", "other"] spApIn := by
  have sc := sc_apart_in
  refine F.ok sc (fun vs H Q E h => ?_) (fun f cdv A outer s H vs Q E hr h => ?_)
  · obtain ⟨_, _, _, _, rfl, _⟩ := h; rfl
  obtain ⟨v, R, one, other, rfl, hv, g, h1, h2, q1, q2⟩ := h
  refine ⟨_, (pss_cons (ps_set (i := 3) sc.nd rfl (Or.inl rfl) (pe_dn D_splits hr (pa_cons (pv 0) pa_nil)))
      (pss_cons (ps_lc (i := 4) (defScope s_apart_in) ["rows", "one", "other", "tables", "alike", "asks", "table", "ask"] ["table", "one", "other"] 1 [1, 2] sc.nd rfl rfl (pi_list (pv 3)) (fun _ _ _ _ _ _ => (ptg_name (show List.Nodup (["table", "one", "other"] : List Str) by decide +kernel) rfl rfl)) (fun _ _ _ _ _ _ => (pts_one (pt_cmpR op_eq (pe_ix (ixL (K := K) rfl) (pv 0) (pv 1) (fun _ _ => rfl)) (pe_ix (ixL (K := K) rfl) (pv 0) (pv 2) (fun _ _ => rfl)) (nomark _)))) (fun _ _ _ _ _ _ => (pv 0)))
      (pss_cons (ps_if (pt_cmpR op_eq (pe_callB (clLen (K := K) rfl) rfl T.b_len PySem.boot_len (pa_cons (pv 4) pa_nil)) (pe_callB (clLen (K := K) rfl) rfl T.b_len PySem.boot_len (pa_cons (pv 3) pa_nil)) (nomark _))
      (pss_one (ps_ret pe_non))
      pss_nil)
      (pss_cons (ps_set (i := 5) sc.nd rfl (Or.inl rfl) (pe_lst pa_nil))
      (pss_cons (ps_for PassesOwn.never rfl (pi_rev (K := K) rfl rfl T.b_reversed (pa_cons (pv 4) pa_nil)) (pg_name (i := 6) sc.nd rfl (Or.inl rfl))
      (pss_cons (ps_set (i := 7) sc.nd rfl (Or.inl rfl) (pe_dn D_first_unlike hr (pa_cons (pe_ix (ixL (K := K) rfl) (pv 0) (pv 1) (fun _ _ => rfl)) (pa_cons (pe_ix (ixL (K := K) rfl) (pv 0) (pv 2) (fun _ _ => rfl)) (pa_cons (pv 6) pa_nil)))))
      (pss_cons (ps_expr (pe_bm PySem.F.plainAttrs_list PySem.F.slot_list_append PySem.F.type_list_append mt_append (pv 5) (pa_cons (pv 7) pa_nil)))
      (pss_cons (ps_set (i := 1) sc.nd rfl (Or.inr rfl) (pe_ix (ixT (K := K) rfl) (pe_ix (ixL (K := K) rfl) (pe_ix (ixL (K := K) rfl) (pv 0) (pv 1) (fun _ _ => rfl)) (pv 7) (fun _ _ => rfl)) pe_int (fun _ _ => rfl)))
      (pss_one (ps_set (i := 2) sc.nd rfl (Or.inr rfl) (pe_ix (ixT (K := K) rfl) (pe_ix (ixL (K := K) rfl) (pe_ix (ixL (K := K) rfl) (pv 0) (pv 2) (fun _ _ => rfl)) (pv 7) (fun _ _ => rfl)) pe_int (fun _ _ => rfl))))))))
      (pss_one (ps_ret (pv 5)))))))), ?_⟩
  obtain ⟨a, rs, rfl, ha, rl, hrow⟩ := ms_parts hv
  refine ⟨_, rfl, _, R, rfl, hv, g, fun l ts H1 s1 hl tb fin => ?_⟩
  obtain ⟨_, us, e, hl, pr⟩ := hl
  cases e
  obtain ⟨j, hj, hcut⟩ := eqv_cut (mch R) one other ts.length
  have ul : ts.length = us.length := pr_len pr
  have few := g.few
  have tfew := tb.few
  have tat : ∀ {k : Nat} {t : List Nat}, ts[k]? = some t → ∃ ta, us[k]? = some (.ref ta) ∧ H1 ta = some (.lst (tN t)) := fun {k t} ht => by
    obtain ⟨u, hu, ta, rfl, hta⟩ := L2.Paired.at pr ht
    exact ⟨ta, hu, hta⟩
  refine ⟨_, rfl, l, rfl, ⟨_, SqL.of hl⟩, comp_listD (K := K) (a := l) (xs := us) (fun i ys H3 => H3 = H1 ∧ ys = us.take (min i j)) ⟨rfl, by rw [Nat.zero_min, List.take_zero]⟩ (small (m := 1000) (by omega)) (fun i ys H3 hi h => ?_) (fun i v ys H3 hi h => ?_) (fun ys H3 h lb hlb => ?_)⟩
  · obtain ⟨rfl, rfl⟩ := h
    exact ⟨SqL.of hl, by rw [List.length_take]; omega⟩
  · obtain ⟨rfl, rfl⟩ := h
    have il : i < ts.length := by rw [ul]; exact (List.getElem?_eq_some_iff.mp hi).1
    obtain ⟨ta, hu, hta⟩ := tat (List.getElem?_eq_getElem il)
    rw [hi] at hu
    injection hu with hu
    subst hu
    obtain ⟨tl, te⟩ := tb.tb i _ (List.getElem?_eq_getElem il)
    have a1 : atI (tN ts[i]) (one : Int) = some (V.int ((tF ts[i] one : Nat) : Int)) := atI_nat (tN_at (by omega))
    have a2 : atI (tN ts[i]) (other : Int) = some (V.int ((tF ts[i] other : Nat) : Int)) := atI_nat (tN_at (by omega))
    refine ⟨_, rfl, _, rfl, ta, _, _, _, rfl, rfl, SqL.of hta, a1, _, rfl, _, rfl, ta, _, _, _, rfl, rfl, SqL.of hta, a2, rfl, _, rfl, ?_⟩
    refine ite2 (fun c => ?_) (fun c => ?_)
    · have c' : tF ts[i] one = tF ts[i] other := by
        have := of_decide_eq_true c
        injection this with this
        omega
      have lj : i < j := (hcut i il).mp ((te _ _ h1 h2).mp c')
      refine ⟨_, rfl, rfl, ?_⟩
      rw [Nat.min_eq_left (by omega), Nat.min_eq_left (by omega), List.take_add_one, hi]; rfl
    · have lj : ¬ i < j := fun z => c (decide_eq_true (by rw [(te _ _ h1 h2).mpr ((hcut i il).mpr z)]))
      exact ⟨rfl, by rw [Nat.min_eq_right (by omega), Nat.min_eq_right (by omega)]⟩
  obtain ⟨rfl, rfl⟩ := h
  rw [← ul, Nat.min_eq_right hj]
  have al : (us.take j).length = j := by rw [List.length_take]; omega
  have s4 := same_upd hlb (.lst (us.take j))
  have hlb4 : upd H3 lb (.lst (us.take j)) lb = some (.lst (us.take j)) := upd_same
  generalize upd H3 lb (.lst (us.take j)) = H4 at s4 hlb4 ⊢
  refine ⟨_, rfl, lb, _, rfl, .inl (SqL.of hlb4), _, rfl, l, _, rfl, .inl (SqL.of (s4 _ _ hl)), rfl, _, rfl, ?_⟩
  have tp := tb.pos
  refine ite2 (fun c => ?_) (fun c => ?_)
  · have c' : j = ts.length := by
      have := of_decide_eq_true c
      injection this with this
      omega
    refine q1 (fun s => ?_) _ (s1.trans s4)
    have hk : ts.length - 1 < ts.length := by omega
    exact fin _ (List.getElem?_eq_getElem hk) _ _ h1 h2 (((tb.tb _ _ (List.getElem?_eq_getElem hk)).2 _ _ h1 h2).mpr ((hcut _ hk).mpr (by omega))) s
  have hjl : j < ts.length := by
    rcases Nat.lt_or_ge j ts.length with z | z
    · exact z
    · exact absurd (decide_eq_true (by rw [al, ← ul, show j = ts.length by omega])) c
  have hj0 : 0 < j := (hcut 0 tp).mp trivial
  refine ⟨Nat.zero_le _, fun ga hga => ?_⟩
  have hga0 : H ga = none := (s1.trans s4).free hga
  refine ⟨_, rfl, lb, us.take j, rfl, SqL.of (same_upd hga _ _ _ hlb4), for_rev (K := K) (a := lb) (xs := us.take j) (fun i σ H5 => ∃ (asks : List Nat) (o1 o2 : Nat) (y1 y2 : Option V), σ = [some (.ref a), some (.int (o1 : Int)), some (.int (o2 : Int)), some (.ref l), some (.ref lb), some (.ref ga), y1, y2] ∧ Same H4 H5 ∧ H5 ga = some (.lst (tN asks)) ∧ asks.length = i ∧ o1 < R.length ∧ o2 < R.length ∧ ApP (mch R) one other asks (j - i) o1 o2)
    ⟨[], one, other, _, _, rfl, same_upd hga _, upd_same, rfl, h1, h2, fun z => by omega, fun _ => ⟨(hcut _ (by omega)).mpr (by omega), fun z => absurd ((hcut _ hjl).mp z) (Nat.lt_irrefl j), fun s _ hs => hs⟩⟩ (fun i σ H5 _ h => ?_) (fun i x σ H5 hi hx h => ?_) (fun σ H5 h => ?_)⟩
  · obtain ⟨_, _, _, _, _, _, s5, _⟩ := h
    exact SqL.of (s5 _ _ hlb4)
  · obtain ⟨asks, o1, o2, y1, y2, rfl, s5, hg5, asl, l1, l2, ap⟩ := h
    rw [al] at hi hx
    obtain ⟨k, hk⟩ : ∃ k, k = j - 1 - i := ⟨_, rfl⟩
    rw [← hk, List.getElem?_take, if_pos (by omega)] at hx
    have kl : k < ts.length := by omega
    obtain ⟨ta, hu, hta⟩ := tat (List.getElem?_eq_getElem kl)
    rw [hx] at hu
    injection hu with hu
    subst hu
    obtain ⟨tl, te⟩ := tb.tb k _ (List.getElem?_eq_getElem kl)
    generalize ts[k] = t at hta tl te
    rw [show j - i = k + 1 by omega] at ap
    have s05 : Same H H5 := (s1.trans s4).trans s5
    obtain ⟨u1, e1, hr1⟩ := hrow o1 _ (List.getElem?_eq_getElem l1)
    obtain ⟨u2, e2, hr2⟩ := hrow o2 _ (List.getElem?_eq_getElem l2)
    obtain ⟨a1, us1, rfl, ha1, ul1, at1⟩ := mr_parts hr1
    obtain ⟨a2, us2, rfl, ha2, ul2, at2⟩ := mr_parts hr2
    have go1 := g.go _ (List.getElem_mem l1)
    have go2 := g.go _ (List.getElem_mem l2)
    have f1 := g.fw2 _ (List.getElem_mem l1)
    have er1 : R.getD o1 [] = R[o1] := by rw [List.getD_eq_getElem?_getD, List.getElem?_eq_getElem l1]; rfl
    have er2 : R.getD o2 [] = R[o2] := by rw [List.getD_eq_getElem?_getD, List.getElem?_eq_getElem l2]; rfl
    have len1 : R[o1].length = (mch R).asks := by have := go1.len; show _ = (R.headD []).length; omega
    have len2 : R[o2].length = (mch R).asks := by have := go2.len; show _ = (R.headD []).length; omega
    have ex : ∃ b, b < R[o1].length ∧ UnA t R[o1] R[o2] b := by
      have ne := (ap.2 (Nat.succ_pos k)).2.1
      refine Classical.byContradiction fun z => ne fun b hb => ?_
      refine Classical.byContradiction fun y => z ⟨b, by omega, ?_⟩
      rw [← er1, ← er2]
      refine (unA g l1 l2 hb).mpr fun y' => y ⟨y'.1, (te _ _ (g.nxt _ _ l1 hb) (g.nxt _ _ l2 hb)).mp y'.2⟩
    refine ⟨_, rfl, _, rfl, a, _, _, _, rfl, rfl, SqL.of (s05 _ _ ha), atI_nat e1, _, rfl, _, rfl, a, _, _, _, rfl, rfl, SqL.of (s05 _ _ ha), atI_nat e2, _, rfl, _, _, R[o1], R[o2], ta, t, rfl, mono_mr.up s05 hr1, mono_mr.up s05 hr2, s5 _ _ (s4 _ _ hta), by omega, by omega, fun p hp => by have := go1.go p hp; omega, fun p hp => by have := go2.go p hp; omega, ex, fun b H6 s6 hb hu hf => ?_⟩
    have hb' : b < (mch R).asks := by omega
    refine ⟨_, rfl, .inl ⟨rfl, _, SqL.of (s6 _ _ hg5)⟩, _, rfl, ga, tN asks, _, rfl, rfl, s6 _ _ hg5, smlt (m := 1000) (by rw [tN_len]; omega), ?_⟩
    have s7 : Same H4 (upd H6 ga (.lst (tN asks ++ [V.int (b : Int)]))) := (s5.trans s6).put hga _
    have hg7 : upd H6 ga (.lst (tN asks ++ [V.int (b : Int)])) ga = some (.lst (tN (asks ++ [b]))) := by rw [upd_same]; unfold tN; rw [List.map_append]; rfl
    generalize upd H6 ga (.lst (tN asks ++ [V.int (b : Int)])) = H7 at s7 hg7 ⊢
    have s07 : Same H H7 := (s1.trans s4).trans s7
    obtain ⟨r1, x1, q11, q12, _, q14, q15, _⟩ := g.at l1 hb'
    obtain ⟨r2, x2, q21, q22, _, q24, q25, _⟩ := g.at l2 hb'
    rw [List.getElem?_eq_getElem l1] at q11
    injection q11 with q11
    rw [List.getElem?_eq_getElem l2] at q21
    injection q21 with q21
    subst q11 q21
    obtain ⟨t1, m1, n1⟩ := at1 _ _ q12
    obtain ⟨t2, m2, n2⟩ := at2 _ _ q22
    refine ⟨_, rfl, _, rfl, a, _, _, _, rfl, rfl, SqL.of (s07 _ _ ha), atI_nat e1, _, rfl, a1, _, _, _, rfl, rfl, SqL.of (s07 _ _ ha1), atI_nat m1, t1, _, _, _, rfl, rfl, SqT.of (s07 _ _ n1), atI_nat (j := 1) rfl, ?_⟩
    refine ⟨_, rfl, _, rfl, a, _, _, _, rfl, rfl, SqL.of (s07 _ _ ha), atI_nat e2, _, rfl, a2, _, _, _, rfl, rfl, SqL.of (s07 _ _ ha2), atI_nat m2, t2, _, _, _, rfl, rfl, SqT.of (s07 _ _ n2), atI_nat (j := 1) rfl, ?_⟩
    refine ⟨asks ++ [b], (mch R).nxt o1 b, (mch R).nxt o2 b, _, _, by rw [q14, q24]; rfl, s7, hg7, by simp [asl], q15, q25, ?_⟩
    rw [show j - (i + 1) = k by omega]
    rw [← er1, ← er2] at hu hf
    exact ap.step g l1 l2 te hb' ((unA g l1 l2 hb').mp hu) fun c hc => Classical.byContradiction fun z => hf c hc ((unA g l1 l2 (by omega)).mpr z)
  · obtain ⟨asks, o1, o2, y1, y2, rfl, s5, hg5, asl, l1, l2, ap⟩ := h
    rw [al] at asl ap
    exact ⟨_, rfl, q2 asks (ap.1 (by omega)) ga _ ((s1.trans s4).trans s5) hga0 hg5 (by omega)⟩
def spAt (K : PySem.W.Frag) : Sp := fun vs H Q _ => ∃ (a : Addr) (ns : List Int) (k : Int), vs = [.ref a, .int k] ∧ SqL K H a (ns.map V.int) ∧ ns.length ≤ 63 ∧ 0 ≤ k ∧ k ≤ 1000 ∧ ∀ z : Int, Q (.int z) H
theorem ok_at (F : DefAt K mg "_law_at" s_law_at ["_law_script", "_law_k"]) (T : Txt mg) : Dn P w K mg base "_law_at" 1 ["_law_script", "_law_k"] (spAt K) := by
  have sc := sc_law_at
  refine F.ok sc (fun vs H Q E h => ?_) (fun f cdv A outer s H vs Q E hr h => ?_)
  · obtain ⟨_, _, _, rfl, _⟩ := h; rfl
  obtain ⟨a, ns, k, rfl, hS, h63, h0, h1, q⟩ := h
  have hl : (ns.map V.int).length = ns.length := List.length_map _
  refine ⟨_, (pss_cons (ps_if (pt_cmpR op_lt (pv 1) (pe_callB (clLen (K := K) rfl) rfl T.b_len PySem.boot_len (pa_cons (pv 0) pa_nil)) (nomark _))
      (pss_one (ps_ret (pe_ix (ixL (K := K) rfl) (pv 0) (pv 1) (fun _ _ => rfl))))
      pss_nil)
      (pss_cons (ps_set (i := 2) sc.nd rfl (Or.inl rfl) (pe_op op_add (pe_op op_mul pe_int (pv 1)) pe_int))
      (pss_cut (ps_if (pt_cmpR op_gt (pe_callB (clLen (K := K) rfl) rfl T.b_len PySem.boot_len (pa_cons (pv 0) pa_nil)) pe_int (nomark _))
      (pss_one (ps_set (i := 2) sc.nd rfl (Or.inl rfl) (pe_op op_add (pv 2) (pe_op op_mul (pe_op op_mod (pe_ix (ixL (K := K) rfl) (pv 0) (pe_op op_mod (pv 1) (pe_callB (clLen (K := K) rfl) rfl T.b_len PySem.boot_len (pa_cons (pv 0) pa_nil))) (fun _ _ => rfl)) pe_int) (pe_op op_add (pv 1) pe_int)))))
      pss_nil)
      (pss_one (ps_ret (pe_op op_add (pe_op op_mod (pe_op op_mul (pv 2) (pv 2)) pe_int) (pe_op op_mod (pv 2) pe_int))))))), ?_⟩
  refine ⟨_, rfl, _, rfl, a, _, rfl, .inl hS, _, _, rfl, rfl, _, rfl, ?_⟩
  refine ite2 (fun c => ?_) (fun c => ?_)
  · have c' : k < (((ns.map V.int).length : Nat) : Int) := of_decide_eq_true c
    rw [hl] at c'
    exact ⟨_, rfl, _, rfl, a, _, _, _, rfl, rfl, hS, atI_ints h0 c', q _⟩
  refine ⟨_, rfl, _, _, rfl, rfl, .inl ⟨by decide, by decide⟩, _, _, rfl, rfl, ?_⟩
  refine ⟨fun σ' H1 => H1 = H ∧ ∃ m : Int, -(2 ^ 64) < m ∧ m < 2 ^ 64 ∧ σ' = [some (.ref a), some (.int k), some (.int m)], ?_, ?_⟩
  · refine ⟨_, rfl, a, _, rfl, .inl hS, _, _, rfl, rfl, _, rfl, ?_⟩
    refine ite2 (fun c => ?_) (fun c => ?_)
    · have c' : (0 : Int) < (((ns.map V.int).length : Nat) : Int) := of_decide_eq_true c
      rw [hl] at c'
      have b1 := Int.emod_nonneg k (show (ns.length : Int) ≠ 0 by omega)
      have b2 := Int.emod_lt_of_pos k (show (0 : Int) < ns.length by omega)
      refine ⟨_, rfl, _, rfl, _, rfl, _, rfl, a, _, rfl, .inl hS, _, _, rfl, rfl, (by rw [hl]; omega), a, _, _, _, rfl, rfl, hS, (by rw [hl]; exact atI_ints b1 b2), _, _, rfl, rfl, (show (0 : Int) < 1000003 by decide), ?_⟩
      have e1 := Int.emod_nonneg (ns.getD (k % (ns.length : Int)).toNat 0) (show (1000003 : Int) ≠ 0 by decide)
      have e2 := Int.emod_lt_of_pos (ns.getD (k % (ns.length : Int)).toNat 0) (show (0 : Int) < 1000003 by decide)
      refine ⟨_, rfl, _, _, rfl, rfl, _, _, rfl, rfl, .inr ⟨by omega, by omega⟩, _, _, rfl, rfl, rfl, _, ?_, ?_, rfl⟩
      · have := Int.mul_nonneg e1 (show 0 ≤ k + 1 by omega); omega
      · have : ns.getD (k % (ns.length : Int)).toNat 0 % 1000003 * (k + 1) ≤ 1000003 * 1001 := Int.mul_le_mul (by omega) (by omega) (by omega) (by decide)
        omega
    · exact ⟨rfl, _, by omega, by omega, rfl⟩
  rintro σ' H1 ⟨rfl, m, m1, m2, rfl⟩
  exact ⟨_, rfl, _, rfl, _, _, rfl, rfl, .inl ⟨m1, m2⟩, _, _, rfl, rfl, (show (0 : Int) < 999979 by decide), _, rfl, _, _, rfl, rfl, (show (0 : Int) < 101 by decide), _, _, rfl, rfl, q _⟩
theorem tlA_symm {M : Mch} : ∀ {s : List Nat} {p q : Nat}, tlA M s p q → tlA M s q p
  | [_], _, _, h => ⟨h.1, fun z => h.2 z.symm⟩
  | _ :: _ :: _, _, _, h => ⟨h.1, h.2.1.symm, tlA_symm h.2.2⟩
def mvR (c : Int) (R : List MRow) : List MRow := R.map fun r => r.map fun p => (p.1, p.2 + c)
def spMoved : Sp := fun vs H Q _ => ∃ (v : V) (R : List MRow) (c : Int), vs = [v, .int c] ∧ rMs H R v ∧ R.length ≤ 1000 ∧ (∀ r ∈ R, r.length ≤ 1000) ∧ ∀ u H', Same H H' → rMs H' (mvR c R) u → Q u H'
theorem ok_moved (F : DefAt K mg "rows_moved" s_rows_moved ["rows", "by"]) (T : Txt mg) : Dn P w K mg base "rows_moved" 1 ["rows", "by"] spMoved := by
  have sc := sc_rows_moved
  refine F.ok sc (fun vs H Q E h => ?_) (fun f cdv A outer s H vs Q E hr h => ?_)
  · obtain ⟨_, _, _, rfl, _⟩ := h; rfl
  obtain ⟨v, R, c, rfl, hv, few, few2, q⟩ := h
  obtain ⟨a, us, rfl, ha, ul, hat⟩ := ms_parts hv
  refine ⟨_, (pss_one (ps_ret (pe_lc (defScope s_rows_moved) ["rows", "by"] ["row", "by"] 1 [1] (pi_list (pv 0)) (fun _ _ _ _ _ _ => (ptg_name (show List.Nodup (["row", "by"] : List Str) by decide +kernel) rfl rfl)) (fun _ _ _ _ _ _ => pts_nil) (fun _ _ _ _ _ _ => (by exact (pe_lcN2  ["row", "by"] ["step", "by"] 1 [1] (pi_list0 (pv 0)) (fun _ _ _ _ _ _ => (ptg_name (show List.Nodup (["step", "by"] : List Str) by decide +kernel) rfl rfl)) (fun _ _ _ _ _ _ => pts_nil) (fun _ _ _ _ _ _ => (pe_tup (pa_cons (pe_ix (ixT (K := K) rfl) (pv 0) pe_int (fun _ _ => rfl)) (pa_cons (pe_op op_add (pe_ix (ixT (K := K) rfl) (pv 0) pe_int (fun _ _ => rfl)) (pv 1)) pa_nil)))))))))), ?_⟩
  refine ⟨_, rfl, a, rfl, ⟨_, SqL.of ha⟩, comp_listD (K := K) (a := a) (xs := us) (fun i ys H3 => Same H H3 ∧ Paired (rMR H3) (mvR c (R.take i)) ys) ⟨Same.refl _, .nil⟩ (small (m := 1000) (by omega)) (fun i ys H3 hi h => ?_) (fun i v ys H3 hi h => ?_) (fun ys H3 h lb hlb => ?_)⟩
  · obtain ⟨s3, p3⟩ := h
    refine ⟨SqL.of (s3 _ _ ha), ?_⟩
    rw [← pr_len p3]; unfold mvR; rw [List.length_map]; exact List.length_take_le _ _
  · obtain ⟨s3, p3⟩ := h
    have il : i < R.length := by rw [← ul]; exact (List.getElem?_eq_some_iff.mp hi).1
    obtain ⟨u, hu, hr'⟩ := hat i _ (List.getElem?_eq_getElem il)
    rw [hi] at hu
    injection hu with hu
    subst hu
    obtain ⟨ai, ui, rfl, hai, uli, hati⟩ := mr_parts (mono_mr.up s3 hr')
    have fi := few2 _ (List.getElem_mem il)
    refine comp_yes ?_
    refine ⟨_, rfl, ai, rfl, ⟨_, SqL.of hai⟩, comp_listD (K := K0) (a := ai) (xs := ui) (fun j zs H4 => Same H3 H4 ∧ Paired (rT2 rInt rInt H4) ((R[i].take j).map fun p => (p.1, p.2 + c)) zs) ⟨Same.refl _, .nil⟩ (small (m := 1000) (by omega)) (fun j zs H4 hj h => ?_) (fun j v zs H4 hj h => ?_) (fun zs H4 h lc hlc => ?_)⟩
    · obtain ⟨s4, p4⟩ := h
      refine ⟨SqL.of (s4 _ _ hai), ?_⟩
      rw [← pr_len p4, List.length_map]; exact List.length_take_le _ _
    · obtain ⟨s4, p4⟩ := h
      have jl : j < R[i].length := by rw [← uli]; exact (List.getElem?_eq_some_iff.mp hj).1
      obtain ⟨t, ht', ht⟩ := hati j _ (List.getElem?_eq_getElem jl)
      rw [hj] at ht'
      injection ht' with ht'
      subst ht'
      refine comp_yes ?_
      refine ⟨_, rfl, t, _, _, _, rfl, rfl, SqT.of (s4 _ _ ht), atI_nat (j := 0) rfl, _, rfl, t, _, _, _, rfl, rfl, SqT.of (s4 _ _ ht), atI_nat (j := 1) rfl, _, rfl, _, _, rfl, rfl, (by show 2 ≤ sizeLine; decide), fun tn htn => ?_⟩
      refine ⟨s4.trans (same_upd htn _), ?_⟩
      rw [List.take_succ, List.getElem?_eq_getElem jl, List.map_append]
      exact L2.Paired.app (paired_mono (mono_t2 mono_int mono_int) (same_upd htn _) p4) (.cons ⟨tn, _, _, rfl, upd_same, rfl, rfl⟩ .nil)
    · obtain ⟨s4, p4⟩ := h
      rw [uli, List.take_length] at p4
      have s5 := s4.trans (same_upd hlc (.lst zs))
      refine ⟨s3.trans s5, ?_⟩
      unfold mvR at p3 ⊢
      rw [List.take_succ, List.getElem?_eq_getElem il, List.map_append]
      exact L2.Paired.app (paired_mono mono_mr s5 p3) (.cons ⟨lc, zs, rfl, upd_same, paired_mono (mono_t2 mono_int mono_int) (same_upd hlc _) p4⟩ .nil)
  · obtain ⟨s3, p3⟩ := h
    rw [ul, List.take_length] at p3
    exact q _ _ (s3.trans (same_upd hlb _)) ⟨lb, ys, rfl, upd_same, paired_mono mono_mr (same_upd hlb _) p3⟩
abbrev two (R1 R2 : List MRow) : List MRow := R1 ++ mvR ((R1.length : Nat) : Int) R2
structure TwoOk (R1 R2 : List MRow) : Prop where
  g1 : MG R1
  g2 : MG R2
  few : R1.length + R2.length ≤ 160
  asks : (mch R1).asks = (mch R2).asks
section
variable {R1 R2 : List MRow}
theorem TwoOk.len (t : TwoOk R1 R2) : (two R1 R2).length = R1.length + R2.length := by unfold two mvR; rw [List.length_append, List.length_map]
theorem TwoOk.ak (t : TwoOk R1 R2) : (mch (two R1 R2)).asks = (mch R1).asks := by
  have := t.g1.pos
  cases R1 with
  | nil => cases this
  | cons r R1 => rfl
theorem TwoOk.mg2 (t : TwoOk R1 R2) : MG (two R1 R2) := by
  have a := t.ak
  have e : ((two R1 R2).headD []).length = (mch R1).asks := a
  have as := t.asks
  have l := t.len
  refine ⟨by have := t.g1.pos; omega, by have := t.few; omega, fun r hr => ?_, fun r hr => ?_⟩
  · rcases List.mem_append.mp hr with z | z
    · exact t.g1.fw2 r z
    · obtain ⟨r', h, rfl⟩ := List.mem_map.mp z
      rw [List.length_map]; exact t.g2.fw2 r' h
  · rw [e, l]
    rcases List.mem_append.mp hr with z | z
    · have o := t.g1.go r z
      exact ⟨o.ne, o.len, fun p hp => by have := o.go p hp; omega⟩
    · obtain ⟨r', h, rfl⟩ := List.mem_map.mp z
      have o := t.g2.go r' h
      refine ⟨fun z => o.ne (List.map_eq_nil_iff.mp z), by rw [List.length_map, as]; exact o.len, fun p hp => ?_⟩
      obtain ⟨p', hp', rfl⟩ := List.mem_map.mp hp
      have := o.go p' hp'
      show 0 ≤ p'.2 + _ ∧ p'.2 + _ < _
      omega
theorem TwoOk.l (t : TwoOk R1 R2) {p a : Nat} (hp : p < R1.length) : (mch (two R1 R2)).ans p a = (mch R1).ans p a ∧ (mch (two R1 R2)).nxt p a = (mch R1).nxt p a := by
  have e : (two R1 R2).getD p [] = R1.getD p [] := by
    rw [List.getD_eq_getElem?_getD, List.getD_eq_getElem?_getD, List.getElem?_append_left hp]
  exact ⟨by show (((two R1 R2).getD p []).getD a (0, 0)).1 = _; rw [e]; rfl, by show (((two R1 R2).getD p []).getD a (0, 0)).2.toNat = _; rw [e]; rfl⟩
theorem TwoOk.r (t : TwoOk R1 R2) {p a : Nat} (hp : p < R2.length) (ha : a < (mch R1).asks) : (mch (two R1 R2)).ans (R1.length + p) a = (mch R2).ans p a ∧ (mch (two R1 R2)).nxt (R1.length + p) a = R1.length + (mch R2).nxt p a := by
  obtain ⟨r, x, h1, h2, h3, h4, _, _⟩ := t.g2.at hp (by rw [← t.asks]; exact ha)
  have e : ((two R1 R2).getD (R1.length + p) []).getD a (0, 0) = (x.1, x.2 + ((R1.length : Nat) : Int)) := by
    rw [List.getD_eq_getElem?_getD, List.getD_eq_getElem?_getD, List.getElem?_append_right (Nat.le_add_right _ _), Nat.add_sub_cancel_left]
    unfold mvR
    rw [List.getElem?_map, h1, Option.map_some, Option.getD_some, List.getElem?_map, h2]; rfl
  refine ⟨by show (((two R1 R2).getD (R1.length + p) []).getD a (0, 0)).1 = _; rw [e]; exact h3, ?_⟩
  show (((two R1 R2).getD (R1.length + p) []).getD a (0, 0)).2.toNat = _
  rw [e]
  show (x.2 + ((R1.length : Nat) : Int)).toNat = _
  omega
theorem TwoOk.swap (t : TwoOk R1 R2) : TwoOk R2 R1 := ⟨t.g2, t.g1, by have := t.few; omega, t.asks.symm⟩
theorem TwoOk.tl (t : TwoOk R1 R2) {s : List Nat} {p q : Nat} (hp : p < R1.length) (hq : q < R2.length) (h : tlA (mch (two R1 R2)) s p (R1.length + q)) : tlA (mch (two R2 R1)) s q (R2.length + p) := by
  refine tlA_symm (tlA_sim (B := fun x y => (x < R1.length ∧ y = R2.length + x) ∨ ∃ z, z < R2.length ∧ x = R1.length + z ∧ y = z) (by rw [t.ak, t.swap.ak, t.asks]) (fun x y hxy a ha => ?_) (.inl ⟨hp, rfl⟩) (.inr ⟨q, hq, rfl, rfl⟩) h)
  rw [t.ak] at ha
  have ha2 : a < (mch R2).asks := by rw [← t.asks]; exact ha
  rcases hxy with ⟨h1, rfl⟩ | ⟨z, h1, rfl, rfl⟩
  · obtain ⟨e1, e2⟩ := t.l (a := a) h1
    obtain ⟨f1, f2⟩ := t.swap.r h1 ha2
    exact ⟨by rw [e1, f1], .inl ⟨by rw [e2]; exact t.g1.nxt _ _ h1 ha, by rw [f2, e2]⟩⟩
  · obtain ⟨e1, e2⟩ := t.r h1 ha
    obtain ⟨f1, f2⟩ := t.swap.l (a := a) h1
    exact ⟨by rw [e1, f1], .inr ⟨_, t.g2.nxt _ _ h1 ha2, e2, f2⟩⟩
theorem TwoOk.alk1 (t : TwoOk R1 R2) {p q : Nat} (hp : p < R1.length) (hq : q < R1.length) : Alk (mch R1) p q ↔ Alk (mch (two R1 R2)) p q := by
  have b : ∀ x y, (x < R1.length ∧ y = x) → ∀ a, a < (mch R1).asks → (mch R1).ans x a = (mch (two R1 R2)).ans y a ∧ ((mch R1).nxt x a < R1.length ∧ (mch (two R1 R2)).nxt y a = (mch R1).nxt x a) := fun x y hxy a ha => by
    obtain ⟨h1, rfl⟩ := hxy
    obtain ⟨e1, e2⟩ := t.l (a := a) h1
    exact ⟨e1.symm, t.g1.nxt _ _ h1 ha, e2⟩
  have b' : ∀ x y, (x < R1.length ∧ y = x) → ∀ a, a < (mch (two R1 R2)).asks → (mch (two R1 R2)).ans x a = (mch R1).ans y a ∧ ((mch (two R1 R2)).nxt x a < R1.length ∧ (mch R1).nxt y a = (mch (two R1 R2)).nxt x a) := fun x y hxy a ha => by
    rw [t.ak] at ha
    obtain ⟨h1, rfl⟩ := hxy
    obtain ⟨e1, e2⟩ := t.l (a := a) h1
    exact ⟨e1, by rw [e2]; exact t.g1.nxt _ _ h1 ha, e2.symm⟩
  exact ⟨fun h s hs => h s (tlA_sim t.ak b' ⟨hp, rfl⟩ ⟨hq, rfl⟩ hs), fun h s hs => h s (tlA_sim t.ak.symm b ⟨hp, rfl⟩ ⟨hq, rfl⟩ hs)⟩
theorem TwoOk.alk2 (t : TwoOk R1 R2) {p q : Nat} (hp : p < R2.length) (hq : q < R2.length) : Alk (mch R2) p q ↔ Alk (mch (two R1 R2)) (R1.length + p) (R1.length + q) := by
  have ea : (mch (two R1 R2)).asks = (mch R2).asks := t.ak.trans t.asks
  have b : ∀ x y, (x < R2.length ∧ y = R1.length + x) → ∀ a, a < (mch R2).asks → (mch R2).ans x a = (mch (two R1 R2)).ans y a ∧ ((mch R2).nxt x a < R2.length ∧ (mch (two R1 R2)).nxt y a = R1.length + (mch R2).nxt x a) := fun x y hxy a ha => by
    obtain ⟨h1, rfl⟩ := hxy
    obtain ⟨e1, e2⟩ := t.r h1 (a := a) (by rw [t.asks]; exact ha)
    exact ⟨e1.symm, t.g2.nxt _ _ h1 ha, e2⟩
  have b' : ∀ x y, (y < R2.length ∧ x = R1.length + y) → ∀ a, a < (mch (two R1 R2)).asks → (mch (two R1 R2)).ans x a = (mch R2).ans y a ∧ ((mch R2).nxt y a < R2.length ∧ (mch (two R1 R2)).nxt x a = R1.length + (mch R2).nxt y a) := fun x y hxy a ha => by
    obtain ⟨h1, rfl⟩ := hxy
    rw [t.ak] at ha
    obtain ⟨e1, e2⟩ := t.r h1 ha
    exact ⟨e1, t.g2.nxt _ _ h1 (by rw [← t.asks]; exact ha), e2⟩
  exact ⟨fun h s hs => h s (tlA_sim ea b' ⟨hp, rfl⟩ ⟨hq, rfl⟩ hs), fun h s hs => h s (tlA_sim ea.symm b ⟨hp, rfl⟩ ⟨hq, rfl⟩ hs)⟩
end
def Kds (R : List MRow) (t : Nat → Nat) : Prop := ∀ p q, p < R.length → q < R.length → (t p = t q ↔ Alk (mch R) p q)
theorem Kds.ok {R : List MRow} {t : Nat → Nat} (g : MG R) (h : Kds R t) : KdOk (mch R) R.length t := fun p q hp hq e a ha => by
  obtain ⟨h1, h2⟩ := ((h p q hp hq).mp e).step ha
  exact ⟨h1, (h _ _ (g.nxt p a hp ha) (g.nxt q a hq ha)).mpr h2⟩
theorem least_iff {R1 R2 : List MRow} (t : TwoOk R1 R2) {t1 t2 : Nat → Nat} (k1 : Kds R1 t1) (k2 : Kds R2 t2) {z1 z2 : Nat} (h1 : z1 < R1.length) (h2 : z2 < R2.length) {L1 L2 : List (List (Int × Nat))} (o1 : LOut (mch R1) t1 z1 L1) (o2 : LOut (mch R2) t2 z2 L2) : L1 = L2 ↔ Alk (mch (two R1 R2)) z1 (R1.length + z2) := by
  constructor
  · rintro rfl
    obtain ⟨B, b0, bs⟩ := LOut.back t.asks t.g1.nxt t.g2.nxt (k1.ok t.g1) (k2.ok t.g2) h1 h2 o1 o2
    refine Alk.bisim (B := fun x y => ∃ q, y = R1.length + q ∧ B x q) (fun x y hxy a ha => ?_) ⟨z2, rfl, b0⟩
    obtain ⟨q, rfl, hb⟩ := hxy
    obtain ⟨c1, c2, c3⟩ := bs x q hb
    rw [t.ak] at ha
    obtain ⟨d1, d2⟩ := c3 a ha
    obtain ⟨e1, e2⟩ := t.l (a := a) c1
    obtain ⟨f1, f2⟩ := t.r c2 ha
    exact ⟨by rw [e1, f1, d1], _, f2, by rw [e2]; exact d2⟩
  · intro h
    refine LOut.same (X := fun p q => p < R1.length ∧ q < R2.length ∧ Alk (mch (two R1 R2)) p (R1.length + q)) ⟨t.asks, fun p q x a ha => ?_, fun p q p' q' x y => ?_⟩ ⟨h1, h2, h⟩ o1 o2
    · obtain ⟨x1, x2, x3⟩ := x
      obtain ⟨d1, d2⟩ := x3.step (a := a) (by rw [t.ak]; exact ha)
      obtain ⟨e1, e2⟩ := t.l (a := a) x1
      obtain ⟨f1, f2⟩ := t.r x2 ha
      rw [e1, f1] at d1
      rw [e2, f2] at d2
      exact ⟨d1, t.g1.nxt _ _ x1 ha, t.g2.nxt _ _ x2 (by rw [← t.asks]; exact ha), d2⟩
    · obtain ⟨x1, x2, x3⟩ := x
      obtain ⟨y1, y2, y3⟩ := y
      rw [k1 p p' x1 y1, k2 q q' x2 y2, t.alk1 x1 y1, t.alk2 x2 y2]
      exact ⟨fun z => (x3.symm.trans z).trans y3, fun z => (x3.trans z).trans y3.symm⟩
def spDiff (K : PySem.W.Frag) : Sp := fun vs H Q E => ∃ (v1 v2 : V) (z1 z2 : Nat) (R1 R2 : List MRow), vs = [v1, v2] ∧ rT2 rInt rMs H ((z1 : Int), R1) v1 ∧ rT2 rInt rMs H ((z2 : Int), R2) v2 ∧ MG R1 ∧ MG R2 ∧ R1.length + R2.length ≤ 160 ∧ z1 < R1.length ∧ z2 < R2.length ∧
  ((mch R1).asks = (mch R2).asks → ApQ (two R1 R2) z1 (R1.length + z2) H Q) ∧ ((mch R1).asks ≠ (mch R2).asks → ∀ H', Same H H' → E (.ref (clK K "NoMachine")) none H')
theorem ok_diff (F : DefAt K mg "differ" s_differ ["one", "other"]) (T : Txt mg) (XC : XT K mg "GarthError" xRs xNs) (D_apart_in : Dn P w K mg base "apart_in" 4 ["rows", "one", "other"] spApIn) (D_rows_moved : Dn P w K mg base "rows_moved" 1 ["rows", "by"] spMoved) : DnX P w K mg base "differ" 5 ["one", "other"] (spDiff K) := by
  have sc := sc_differ
  refine F.okX sc (fun vs H Q E h => ?_) (fun f cdv A outer s H vs Q E hr h => ?_)
  · obtain ⟨_, _, _, _, _, _, rfl, _⟩ := h; rfl
  obtain ⟨v1, v2, z1, z2, R1, R2, rfl, hv1, hv2, g1, g2, few, l1, l2, q1, q2⟩ := h
  obtain ⟨t1, _, w1, rfl, ht1, rfl, hw1⟩ := hv1
  obtain ⟨t2, _, w2, rfl, ht2, rfl, hw2⟩ := hv2
  obtain ⟨a1, us1, rfl, ha1, ul1, hat1⟩ := ms_parts hw1
  obtain ⟨a2, us2, rfl, ha2, ul2, hat2⟩ := ms_parts hw2
  have p1 := g1.pos
  have p2 := g2.pos
  obtain ⟨u1, hu1, r1⟩ := hat1 0 _ (List.getElem?_eq_getElem p1)
  obtain ⟨u2, hu2, r2⟩ := hat2 0 _ (List.getElem?_eq_getElem p2)
  obtain ⟨b1, xs1, rfl, hb1, xl1, _⟩ := mr_parts r1
  obtain ⟨b2, xs2, rfl, hb2, xl2, _⟩ := mr_parts r2
  have k1 : R1[0].length = (mch R1).asks := by have := (g1.go _ (List.getElem_mem p1)).len; show _ = (R1.headD []).length; omega
  have k2 : R2[0].length = (mch R2).asks := by have := (g2.go _ (List.getElem_mem p2)).len; show _ = (R2.headD []).length; omega
  refine ⟨_, (pss_cons (ps_if (pt_cmpR op_ne (pe_callB (clLen (K := K) rfl) rfl T.b_len PySem.boot_len (pa_cons (pe_ix (ixL (K := K) rfl) (pe_ix (ixT (K := K) rfl) (pv 0) pe_int (fun _ _ => rfl)) pe_int (fun _ _ => rfl)) pa_nil)) (pe_callB (clLen (K := K) rfl) rfl T.b_len PySem.boot_len (pa_cons (pe_ix (ixL (K := K) rfl) (pe_ix (ixT (K := K) rfl) (pv 1) pe_int (fun _ _ => rfl)) pe_int (fun _ _ => rfl)) pa_nil)) (nomark _))
      (pss_one (ps_raise raisesR (XC.m "NoMachine" (by decide)) (XC.exc "NoMachine" (by decide)) (pa_cons pe_str pa_nil)))
      pss_nil)
      (pss_cons (ps_set (i := 2) sc.nd rfl (Or.inl rfl) (pe_callB (clLen (K := K) rfl) rfl T.b_len PySem.boot_len (pa_cons (pe_ix (ixT (K := K) rfl) (pv 0) pe_int (fun _ _ => rfl)) pa_nil)))
      (pss_one (ps_ret (pe_dn D_apart_in hr (pa_cons (pe_op op_cat (pe_ix (ixT (K := K) rfl) (pv 0) pe_int (fun _ _ => rfl)) (pe_dn D_rows_moved hr (pa_cons (pe_ix (ixT (K := K) rfl) (pv 1) pe_int (fun _ _ => rfl)) (pa_cons (pv 2) pa_nil)))) (pa_cons (pe_ix (ixT (K := K) rfl) (pv 0) pe_int (fun _ _ => rfl)) (pa_cons (pe_op op_add (pe_ix (ixT (K := K) rfl) (pv 1) pe_int (fun _ _ => rfl)) (pv 2)) pa_nil)))))))), ?_⟩
  refine ⟨_, rfl, t1, _, _, _, rfl, rfl, SqT.of ht1, atI_nat (j := 1) rfl, a1, _, _, _, rfl, rfl, SqL.of ha1, atI_nat (j := 0) hu1, b1, _, rfl, .inl (SqL.of hb1), ?_⟩
  refine ⟨_, rfl, t2, _, _, _, rfl, rfl, SqT.of ht2, atI_nat (j := 1) rfl, a2, _, _, _, rfl, rfl, SqL.of ha2, atI_nat (j := 0) hu2, b2, _, rfl, .inl (SqL.of hb2), rfl, _, rfl, ?_⟩
  by_cases e : (mch R1).asks = (mch R2).asks
  rotate_left
  · refine ite2 (fun c => ?_) (fun c => ?_)
    · exact ⟨(by show 1 ≤ sizeLine; decide), q2 e _ (Same.refl _)⟩
    · refine absurd ?_ c
      show (!decide (V.int ((xs1.length : Nat) : Int) = V.int ((xs2.length : Nat) : Int))) = true
      rw [decide_eq_false (fun z => e (by injection z with z; omega))]; rfl
  have t : TwoOk R1 R2 := ⟨g1, g2, few, e⟩
  refine ite2 (fun c => ?_) (fun _ => ?_)
  · exfalso
    have c' : (!decide (V.int ((xs1.length : Nat) : Int) = V.int ((xs2.length : Nat) : Int))) = true := c
    rw [decide_eq_true (by rw [xl1, xl2, k1, k2, e])] at c'
    cases c'
  refine ⟨_, rfl, t1, _, _, _, rfl, rfl, SqT.of ht1, atI_nat (j := 1) rfl, a1, _, rfl, .inl (SqL.of ha1), ?_⟩
  refine ⟨_, rfl, t1, _, _, _, rfl, rfl, SqT.of ht1, atI_nat (j := 1) rfl, _, rfl, t2, _, _, _, rfl, rfl, SqT.of ht2, atI_nat (j := 1) rfl, _, rfl, _, R2, _, rfl, hw2, by omega, fun r hr => by have := g2.fw2 r hr; omega, fun u H1 s1 hu => ?_⟩
  obtain ⟨la, ys, rfl, hla, pr⟩ := hu
  obtain ⟨_, zs, e1, hz, pz⟩ := mono_ms.up s1 hw1
  cases e1
  have zl : zs.length = R1.length := (pr_len pz).symm
  have yl : ys.length = R2.length := by rw [← pr_len pr]; unfold mvR; rw [List.length_map]
  refine ⟨a1, la, _, _, rfl, rfl, hz, hla, small (m := 1000) (by omega), fun lc hlc => ?_⟩
  have s2 := s1.trans (same_upd hlc (.lst (zs ++ ys)))
  refine ⟨_, rfl, t1, _, _, _, rfl, rfl, SqT.of (s2 _ _ ht1), atI_nat (j := 0) rfl, _, rfl, t2, _, _, _, rfl, rfl, SqT.of (s2 _ _ ht2), atI_nat (j := 0) rfl, _, rfl, _, _, rfl, rfl, V.ref lc, two R1 R2, z1, R1.length + z2, ?_, ?_, t.mg2, by rw [t.len]; omega, by rw [t.len]; omega, ?_⟩
  · show [V.ref lc, V.int (z1 : Int), V.int ((z2 : Int) + ((us1.length : Nat) : Int))] = _
    rw [ul1, show ((z2 : Int) + ((R1.length : Nat) : Int)) = ((R1.length + z2 : Nat) : Int) by omega]
  · rw [ul1] at pr
    exact ⟨lc, _, rfl, upd_same, L2.Paired.app (paired_mono mono_mr (same_upd hlc _) pz) (paired_mono mono_mr (same_upd hlc _) pr)⟩
  · obtain ⟨x1, x2⟩ := q1 e
    exact ⟨fun h H' s => x1 h H' (s2.trans s), fun so hs l H' s hl0 hl hn => x2 so hs l H' (s2.trans s) (s2.free hl0) hl hn⟩
def hid (xs : List Addr) (H : Hp) : Hp := fun c => if c ∈ xs then none else H c
section
variable {xs ys : List Addr} {H H' : Hp} {c : Addr} {o : HO}
theorem hid_at (h : c ∉ xs) : hid xs H c = H c := if_neg h
theorem hid_in (h : hid xs H c = some o) : c ∉ xs ∧ H c = some o := by
  unfold hid at h
  by_cases e : c ∈ xs
  · rw [if_pos e] at h; cases h
  · rw [if_neg e] at h; exact ⟨e, h⟩
theorem hid_same : Same (hid xs H) H := fun _ _ h => (hid_in h).2
theorem hid_upd (h : c ∈ xs) : hid xs (upd H c o) = hid xs H := by
  funext b
  unfold hid
  by_cases e : b ∈ xs
  · rw [if_pos e, if_pos e]
  · rw [if_neg e, if_neg e, upd_ne (fun z => e (by rw [z]; exact h))]
theorem hid_mono (s : Same H H') : Same (hid xs H) (hid xs H') := fun b o h => by
  obtain ⟨h1, h2⟩ := hid_in h
  rw [hid_at h1]; exact s _ _ h2
theorem hid_less (h : ∀ c ∈ ys, c ∈ xs) : Same (hid xs H) (hid ys H) := fun b o e => by
  obtain ⟨h1, h2⟩ := hid_in e
  rw [hid_at (fun z => h1 (h b z))]; exact h2
theorem hid_more {a : Addr} (h : ∀ c o, H c = some o → c ≠ a → c ∉ xs → H' c = some o) (hn : H a = none) : Same (hid xs H) (hid (a :: xs) H') := fun b o e => by
  obtain ⟨h1, h2⟩ := hid_in e
  have hb : b ≠ a := fun z => by rw [z, hn] at h2; cases h2
  rw [hid_at (fun z => by rcases List.mem_cons.mp z with z | z; exact hb z; exact h1 z)]
  exact h b o h2 hb h1
end
def nkv (t : Nat → Nat) : Nat → List Nat → List (Key × V)
  | _, [] => []
  | i, f :: F => (Sum.inl ((t f : Nat) : Int), V.int (i : Int)) :: nkv t (i + 1) F
theorem fnd_cons {t : Nat → Nat} {f s : Nat} {F : List Nat} : fnd t (f :: F) s = if t f = t s then some 0 else (fnd t F s).map (· + 1) := by
  unfold fnd
  rw [List.findIdx?_cons]
  by_cases e : t f = t s
  · rw [if_pos (decide_eq_true e), if_pos e]
  · rw [if_neg (fun z => e (of_decide_eq_true z)), if_neg e]
theorem nk_val {t : Nat → Nat} {s : Nat} : ∀ {F : List Nat} {i : Nat}, valV (nkv t i F) (Sum.inl ((t s : Nat) : Int)) = (fnd t F s).map fun j => V.int ((i + j : Nat) : Int)
  | [], i => rfl
  | f :: F, i => by
    rw [fnd_cons]
    unfold nkv valV
    by_cases e : t f = t s
    · rw [if_pos e, List.find?_cons_of_pos (by rw [e]; exact decide_eq_true rfl)]; rfl
    · rw [if_neg e, List.find?_cons_of_neg (by
        intro z
        have := of_decide_eq_true z
        injection this with this
        exact e (by omega))]
      have ih := nk_val (t := t) (s := s) (F := F) (i := i + 1)
      unfold valV at ih
      rw [ih, Option.map_map]
      congr 1
      funext j
      show V.int ((i + 1 + j : Nat) : Int) = V.int ((i + (j + 1) : Nat) : Int)
      rw [show i + 1 + j = i + (j + 1) by omega]
theorem nk_snoc {t : Nat → Nat} {s : Nat} : ∀ {F : List Nat} {i : Nat}, nkv t i (F ++ [s]) = nkv t i F ++ [(Sum.inl ((t s : Nat) : Int), V.int ((i + F.length : Nat) : Int))]
  | [], i => rfl
  | f :: F, i => by
    show (Sum.inl ((t f : Nat) : Int), V.int (i : Int)) :: nkv t (i + 1) (F ++ [s]) = (Sum.inl ((t f : Nat) : Int), V.int (i : Int)) :: (nkv t (i + 1) F ++ _)
    rw [nk_snoc, List.length_cons, show i + 1 + F.length = i + (F.length + 1) by omega]
theorem nk_len {t : Nat → Nat} : ∀ {F : List Nat} {i : Nat}, (nkv t i F).length = F.length
  | [], _ => rfl
  | _ :: F, i => by show (nkv t (i + 1) F).length + 1 = _; rw [nk_len]; rfl
theorem nk_put {t : Nat → Nat} {s : Nat} {F : List Nat} (h : fnd t F s = none) : putK (nkv t 0 F) (Sum.inl ((t s : Nat) : Int)) (V.int ((F.length : Nat) : Int)) = nkv t 0 (F ++ [s]) := by
  have hv := nk_val (t := t) (s := s) (F := F) (i := 0)
  rw [h] at hv
  unfold putK
  rw [if_neg, nk_snoc, Nat.zero_add]
  intro ha
  obtain ⟨kv, hm, he⟩ := List.any_eq_true.mp ha
  unfold valV at hv
  have hv : List.find? (fun kv => decide (kv.1 = Sum.inl ((t s : Nat) : Int))) (nkv t 0 F) = none := by
    cases z : List.find? (fun kv => decide (kv.1 = Sum.inl ((t s : Nat) : Int))) (nkv t 0 F) with
    | none => rfl
    | some u => rw [z] at hv; cases hv
  exact List.find?_eq_none.mp hv kv hm he
def lRw (r : List (Int × Nat)) : MRow := r.map fun p => (p.1, (p.2 : Int))
def lInt (L : List (List (Int × Nat))) : List MRow := L.map lRw
theorem lInt_inj {L1 L2 : List (List (Int × Nat))} (h : lInt L1 = lInt L2) : L1 = L2 := by
  refine List.map_inj_right (f := lRw) ?_ |>.mp h
  intro x y e
  refine List.map_inj_right (f := fun p : Int × Nat => (p.1, (p.2 : Int))) ?_ |>.mp e
  intro a b z
  injection z with z1 z2
  exact Prod.ext z1 (by omega)
def spLeast : Sp := fun vs H Q _ => ∃ (v : V) (z : Nat) (R : List MRow), vs = [v] ∧ rT2 rInt rMs H ((z : Int), R) v ∧ MG R ∧ z < R.length ∧ ∀ (u : V) (H' : Hp) (L : List (List (Int × Nat))) (t : Nat → Nat), Same H H' → Kds R t → LOut (mch R) t z L → rT2 rInt rMs H' (0, lInt L) u → Q u H'
structure LmH (R : List MRow) (t : Nat → Nat) (z k : Nat) (H Hx : Hp) (fa na la : Addr) (ws : List V) : Prop where
  s : Same H (hid [fa, na, la] Hx)
  fl : fa ≠ la
  hf : Hx fa = some (.lst (tN (liter (mch R) t z k).1))
  hn : Hx na = some (.dK (nkv t 0 (liter (mch R) t z k).1))
  hl : Hx la = some (.lst ws)
  pr : Paired (rMR (hid [fa, na, la] Hx)) (lInt (liter (mch R) t z k).2) ws
  up : ∀ j, j < k → j < (liter (mch R) t z j).1.length
structure LmI (R : List MRow) (t : Nat → Nat) (z k : Nat) (H Hx : Hp) (fa na la ga ka : Addr) (tab : List Nat) (ws ys : List V) (Fc : List Nat) (rw : List (Int × Nat)) : Prop where
  s : Same H (hid [ga, fa, na, la] Hx)
  fl : fa ≠ la
  gf : ga ≠ fa
  gl : ga ≠ la
  hf : Hx fa = some (.lst (tN Fc))
  hn : Hx na = some (.dK (nkv t 0 Fc))
  hl : Hx la = some (.lst ws)
  hg : Hx ga = some (.lst ys)
  hk : Hx ka = some (.lst (tN tab))
  kf : ka ≠ fa
  kg : ka ≠ ga
  kl : ka ≠ la
  pr : Paired (rMR (hid [ga, fa, na, la] Hx)) (lInt (liter (mch R) t z k).2) ws
  py : Paired (rT2 rInt rInt (hid [ga, fa, na, la] Hx)) (lRw rw) ys
theorem upd_two {H : Hp} {x : Addr} {o o' : HO} : upd (upd H x o) x o' = upd H x o' := by
  funext b
  by_cases e : b = x
  · subst e; rw [upd_same, upd_same]
  · rw [upd_ne e, upd_ne e, upd_ne e]
theorem LmI.grow {R : List MRow} {t : Nat → Nat} {z k : Nat} {H Hx : Hp} {fa na la ga ka : Addr} {tab : List Nat} {ws ys : List V} {Fc Fd : List Nat} {rw : List (Int × Nat)} (I : LmI R t z k H Hx fa na la ga ka tab ws ys Fc rw) : LmI R t z k H (upd (upd Hx na (.dK (nkv t 0 Fd))) fa (.lst (tN Fd))) fa na la ga ka tab ws ys Fd rw := by
  have e : hid [ga, fa, na, la] (upd (upd Hx na (.dK (nkv t 0 Fd))) fa (.lst (tN Fd))) = hid [ga, fa, na, la] Hx := by rw [hid_upd (by simp), hid_upd (by simp)]
  have nf : na ≠ fa := fun z => by have := I.hf; rw [← z, I.hn] at this; cases this
  have nl : la ≠ na := fun z => by have := I.hn; rw [← z, I.hl] at this; cases this
  have ng : ga ≠ na := fun z => by have := I.hn; rw [← z, I.hg] at this; cases this
  have nk : ka ≠ na := fun z => by have := I.hn; rw [← z, I.hk] at this; cases this
  refine ⟨by rw [e]; exact I.s, I.fl, I.gf, I.gl, upd_same, by rw [upd_ne nf]; exact upd_same, by rw [upd_ne (Ne.symm I.fl), upd_ne nl]; exact I.hl, by rw [upd_ne I.gf, upd_ne ng]; exact I.hg, by rw [upd_ne I.kf, upd_ne nk]; exact I.hk, I.kf, I.kg, I.kl, by rw [e]; exact I.pr, by rw [e]; exact I.py⟩
theorem LmI.push {R : List MRow} {t : Nat → Nat} {z k : Nat} {H Hx : Hp} {fa na la ga ka tp : Addr} {tab : List Nat} {ws ys : List V} {Fc : List Nat} {rw : List (Int × Nat)} (I : LmI R t z k H Hx fa na la ga ka tab ws ys Fc rw) {x : Int} {j : Nat} (htp : Hx tp = none) :
    LmI R t z k H (upd (upd Hx tp (.tup [V.int x, V.int (j : Int)])) ga (.lst (ys ++ [V.ref tp]))) fa na la ga ka tab ws (ys ++ [V.ref tp]) Fc (rw ++ [(x, j)]) := by
  have s1 := same_upd htp (.tup [V.int x, V.int (j : Int)])
  have tpn : ∀ {c : Addr} {o : HO}, Hx c = some o → c ≠ tp := fun {c o} e z => by rw [z, htp] at e; cases e
  have e : hid [ga, fa, na, la] (upd (upd Hx tp (.tup [V.int x, V.int (j : Int)])) ga (.lst (ys ++ [V.ref tp]))) = hid [ga, fa, na, la] (upd Hx tp (.tup [V.int x, V.int (j : Int)])) := hid_upd (by simp)
  have m := hid_mono (xs := [ga, fa, na, la]) s1
  have ng : na ≠ ga := fun z => by have := I.hn; rw [z, I.hg] at this; cases this
  refine ⟨by rw [e]; exact I.s.trans m, I.fl, I.gf, I.gl, by rw [upd_ne (Ne.symm I.gf)]; exact s1 _ _ I.hf, by rw [upd_ne ng]; exact s1 _ _ I.hn, by rw [upd_ne (Ne.symm I.gl)]; exact s1 _ _ I.hl, upd_same, by rw [upd_ne I.kg]; exact s1 _ _ I.hk, I.kf, I.kg, I.kl, by rw [e]; exact paired_mono mono_mr m I.pr, ?_⟩
  rw [e]
  unfold lRw
  rw [List.map_append]
  refine L2.Paired.app (paired_mono (mono_t2 mono_int mono_int) m I.py) (.cons ⟨tp, _, _, rfl, ?_, rfl, rfl⟩ .nil)
  rw [hid_at (by simp; exact ⟨(tpn I.hg).symm, (tpn I.hf).symm, (tpn I.hn).symm, (tpn I.hl).symm⟩)]; exact upd_same
def LmW (R : List MRow) (t : Nat → Nat) (z : Nat) (H : Hp) (tm a ka fa na la : Addr) (m : Nat) (σ : St) (Hx : Hp) : Prop := ∃ (k : Nat) (ws : List V) (y1 y2 y3 : Option V), σ = [some (.ref tm), some (.ref a), some (.ref ka), some (.ref fa), some (.ref na), some (.ref la), y1, y2, y3] ∧ LmH R t z k H Hx fa na la ws ∧ m = R.length - k
theorem ok_least (F : DefAt K mg "least_machine" s_least_machine ["machine"]) (T : Txt mg) (D_splits : Dn P w K mg base "splits" 3 ["rows"] spSplits) : Dn P w K mg base "least_machine" 4 ["machine"] spLeast := by
  have sc := sc_least_machine
  refine F.ok sc (fun vs H Q E h => ?_) (fun f cdv A outer s H vs Q E hr h => ?_)
  · obtain ⟨_, _, _, rfl, _⟩ := h; rfl
  obtain ⟨v, z, R, rfl, hv, g, hz, q⟩ := h
  obtain ⟨tm, _, vr, rfl, htm, rfl, hv⟩ := hv
  obtain ⟨a, us, rfl, ha, ul, hat⟩ := ms_parts hv
  refine ⟨_, (pss_cons (ps_set (i := 1) sc.nd rfl (Or.inl rfl) (pe_ix (ixT (K := K) rfl) (pv 0) pe_int (fun _ _ => rfl)))
      (pss_cons (ps_set (i := 2) sc.nd rfl (Or.inl rfl) (pe_ix (ixL (K := K) rfl) (pe_dn D_splits hr (pa_cons (pv 1) pa_nil)) (pe_un un_neg pe_int) (fun _ _ => rfl)))
      (pss_cons (ps_set (i := 3) sc.nd rfl (Or.inl rfl) (pe_lst (pa_cons (pe_ix (ixT (K := K) rfl) (pv 0) pe_int (fun _ _ => rfl)) pa_nil)))
      (pss_cons (ps_set (i := 4) sc.nd rfl (Or.inl rfl) (pe_disp (pps_cons (pe_ix (ixL (K := K) rfl) (pv 2) (pe_ix (ixT (K := K) rfl) (pv 0) pe_int (fun _ _ => rfl)) (fun _ _ => rfl)) pe_int pps_nil) rfl rfl (fun z => by cases z) (by decide)))
      (pss_cons (ps_set (i := 5) sc.nd rfl (Or.inl rfl) (pe_lst pa_nil))
      (pss_cons (ps_while PassesOwn.never (pt_cmpR op_lt (pe_callB (clLen (K := K) rfl) rfl T.b_len PySem.boot_len (pa_cons (pv 5) pa_nil)) (pe_callB (clLen (K := K) rfl) rfl T.b_len PySem.boot_len (pa_cons (pv 3) pa_nil)) (nomark _))
      (pss_cons (ps_set (i := 6) sc.nd rfl (Or.inl rfl) (pe_lst pa_nil))
      (pss_cons (ps_for PassesOwn.never rfl (pi_list (pe_ix (ixL (K := K) rfl) (pv 1) (pe_ix (ixL (K := K) rfl) (pv 3) (pe_callB (clLen (K := K) rfl) rfl T.b_len PySem.boot_len (pa_cons (pv 5) pa_nil)) (fun _ _ => rfl)) (fun _ _ => rfl))) (pg_name (i := 7) sc.nd rfl (Or.inl rfl))
      (pss_cons (ps_set (i := 8) sc.nd rfl (Or.inl rfl) (pe_ix (ixL (K := K) rfl) (pv 2) (pe_ix (ixT (K := K) rfl) (pv 7) pe_int (fun _ _ => rfl)) (fun _ _ => rfl)))
      (pss_cut (ps_if (pt_cmp (pc_dnotin (hu_n hr 1) (pv 8) (pv 4)))
      (pss_cons (ps_dput (hu_n hr 1) (pv 4) (pv 8) (pe_callB (clLen (K := K) rfl) rfl T.b_len PySem.boot_len (pa_cons (pv 3) pa_nil)) rfl)
      (pss_one (ps_expr (pe_bm PySem.F.plainAttrs_list PySem.F.slot_list_append PySem.F.type_list_append mt_append (pv 3) (pa_cons (pe_ix (ixT (K := K) rfl) (pv 7) pe_int (fun _ _ => rfl)) pa_nil)))))
      pss_nil)
      (pss_one (ps_expr (pe_bm PySem.F.plainAttrs_list PySem.F.slot_list_append PySem.F.type_list_append mt_append (pv 6) (pa_cons (pe_tup (pa_cons (pe_ix (ixT (K := K) rfl) (pv 7) pe_int (fun _ _ => rfl)) (pa_cons (pe_dget (hu_n hr 1) (pv 4) (pv 8) (fun _ _ => rfl)) pa_nil))) pa_nil)))))))
      (pss_one (ps_expr (pe_bm PySem.F.plainAttrs_list PySem.F.slot_list_append PySem.F.type_list_append mt_append (pv 5) (pa_cons (pv 6) pa_nil)))))))
      (pss_one (ps_ret (pe_tup (pa_cons pe_int (pa_cons (pv 5) pa_nil))))))))))), ?_⟩
  refine ⟨_, rfl, tm, _, _, _, rfl, rfl, SqT.of htm, atI_nat (j := 1) rfl, ?_⟩
  refine ⟨_, rfl, _, R, rfl, hv, g, fun l ts H1 s1 hl tb fin => ?_⟩
  obtain ⟨_, tvs, e, hl, pr⟩ := hl
  cases e
  have hv : rMs H R (.ref a) := hv
  have hat : ∀ (i : Nat) (r : MRow), R[i]? = some r → ∃ u, us[i]? = some u ∧ rMR H r u := hat
  have hne : ts ≠ [] := List.length_pos_iff.mp tb.pos
  obtain ⟨ts0, tab, rfl⟩ : ∃ ts0 tab, ts = ts0 ++ [tab] := ⟨_, _, (List.dropLast_concat_getLast hne).symm⟩
  obtain ⟨vs0, _, rfl, _, ka, rfl, hka⟩ := pr_snoc pr
  obtain ⟨tl1, te1⟩ := tb.tb ts0.length tab (by simp)
  have fin1 := fin tab (by simp)
  have kd : Kds R (tF tab) := fun p q hp hq => ⟨fin1 p q hp hq, fun h => (te1 p q hp hq).mpr (h.eqv _)⟩
  refine ⟨_, rfl, l, _, _, _, rfl, rfl, SqL.of hl, atI_last vs0 _, ?_⟩
  have htm1 := s1 _ _ htm
  refine ⟨_, rfl, tm, _, _, _, rfl, rfl, SqT.of htm1, atI_nat (j := 0) rfl, (by show 1 ≤ sizeLine; decide), fun fa hfa => ?_⟩
  have s2 := same_upd hfa (.lst [V.int (z : Int)])
  have f2 : upd H1 fa (.lst [V.int (z : Int)]) fa = some (.lst [V.int (z : Int)]) := upd_same
  generalize upd H1 fa (.lst [V.int (z : Int)]) = H2 at s2 f2 ⊢
  refine fun na hna => ?_
  have s3 := s2.trans (same_upd hna (.dK []))
  have kz : atI (tN tab) (z : Int) = some (V.int ((tF tab z : Nat) : Int)) := atI_nat (tN_at (by omega))
  refine ⟨_, rfl, _, rfl, tm, _, _, _, rfl, rfl, SqT.of (s3 _ _ htm1), atI_nat (j := 0) rfl, ka, _, _, _, rfl, rfl, SqL.of (s3 _ _ hka), kz, ?_⟩
  refine ⟨upd_same, [(Sum.inl ((tF tab z : Nat) : Int), V.int 0)], rfl, (by show 1 ≤ 15; decide), ?_⟩
  rw [upd_two]
  have n4 : upd H2 na (.dK (mergeK [] [((Sum.inl ((tF tab z : Nat) : Int) : Key), V.int 0)])) na = some (.dK (nkv (tF tab) 0 [z])) := upd_same
  have s4 := same_upd hna (.dK (mergeK [] [((Sum.inl ((tF tab z : Nat) : Int) : Key), V.int 0)]))
  generalize upd H2 na (.dK (mergeK [] [((Sum.inl ((tF tab z : Nat) : Int) : Key), V.int 0)])) = H4 at n4 s4 ⊢
  refine ⟨Nat.zero_le _, fun la hla => ?_⟩
  have s5 := same_upd hla (.lst [])
  have l5 : upd H4 la (.lst []) la = some (.lst []) := upd_same
  generalize upd H4 la (.lst []) = H5 at s5 l5 ⊢
  have hHn : ∀ {c : Addr} {o : HO}, H c = some o → c ≠ fa ∧ c ≠ na ∧ c ≠ la := fun {c o} e => by
    have e1 := s1 _ _ e
    have e2 := s2 _ _ e1
    have e4 := s4 _ _ e2
    exact ⟨(fun z => by rw [z, hfa] at e1; cases e1), (fun z => by rw [z, hna] at e2; cases e2), fun z => by rw [z, hla] at e4; cases e4⟩
  have i0 : LmW R (tF tab) z H tm a ka fa na la R.length [some (.ref tm), some (.ref a), some (.ref ka), some (.ref fa), some (.ref na), some (.ref la), none, none, none] H5 := by
    refine ⟨0, [], none, none, none, rfl, ⟨fun c o e => ?_, fun z => ?_, s5 _ _ (s4 _ _ f2), s5 _ _ n4, l5, .nil, fun j hj => absurd hj (Nat.not_lt_zero j)⟩, rfl⟩
    · obtain ⟨e1, e2, e3⟩ := hHn e
      rw [hid_at (by simp [e1, e2, e3])]
      exact s5 _ _ (s4 _ _ (s2 _ _ (s1 _ _ e)))
    · have := s4 _ _ f2
      rw [z, hla] at this; cases this
  have kaN : ka ≠ fa ∧ ka ≠ na ∧ ka ≠ la := by
    have e2 := s2 _ _ hka
    have e4 := s4 _ _ e2
    exact ⟨(fun z => by rw [z, hfa] at hka; cases hka), (fun z => by rw [z, hna] at e2; cases e2), fun z => by rw [z, hla] at e4; cases e4⟩
  have few := g.few
  have a20 := g.a20
  refine ⟨fun m σ Hx => LmW R (tF tab) z H tm a ka fa na la m σ Hx ∧ Hx ka = some (.lst (tN tab)), ⟨_, i0, s5 _ _ (s4 _ _ (s2 _ _ hka))⟩, ?_⟩
  rintro m σ Hx ⟨⟨k, ws, y1, y2, y3, rfl, I, rfl⟩, hkx⟩
  have wl : ws.length = k := by
    have e1 := pr_len I.pr
    unfold lInt at e1
    rw [List.length_map, (liter_ok g.nxt hz k I.up).len] at e1
    exact e1.symm
  have fok := (liter_ok (t := tF tab) g.nxt hz k I.up).fok
  have ffew := fok.few
  refine ⟨_, rfl, la, _, rfl, .inl (SqL.of I.hl), _, rfl, fa, _, rfl, .inl (SqL.of I.hf), _, _, rfl, rfl, _, rfl, ?_⟩
  refine ite2 (fun c => ?_) (fun c => ?_)
  · have c : ((ws.length : Nat) : Int) < (((tN (liter (mch R) (tF tab) z k).1).length : Nat) : Int) := of_decide_eq_true c
    rw [tN_len] at c
    have kl : k < (liter (mch R) (tF tab) z k).1.length := by omega
    refine ⟨fun σ' H' => ∃ m', m' < R.length - k ∧ LmW R (tF tab) z H tm a ka fa na la m' σ' H' ∧ H' ka = some (.lst (tN tab)), fun σ' H' h => h, ?_⟩
    refine ⟨Nat.zero_le _, fun ga hga => ?_⟩
    have gan : ∀ {c : Addr} {o : HO}, Hx c = some o → c ≠ ga := fun {c o} e z => by rw [z, hga] at e; cases e
    have m1 : Same (hid [fa, na, la] Hx) (hid [ga, fa, na, la] (upd Hx ga (.lst []))) := hid_more (fun c o e hc _ => by rw [upd_ne hc]; exact e) hga
    have ef : (liter (mch R) (tF tab) z k).1[k]? = some ((liter (mch R) (tF tab) z k).1.getD k 0) := by rw [List.getD_eq_getElem?_getD, List.getElem?_eq_getElem kl]; rfl
    have flt := fok.lt _ (List.mem_of_getElem? ef)
    have J0 : LmI R (tF tab) z k H (upd Hx ga (.lst [])) fa na la ga ka tab ws [] (lrow (mch R) (tF tab) ((liter (mch R) (tF tab) z k).1.getD k 0) (liter (mch R) (tF tab) z k).1 0).1 (lrow (mch R) (tF tab) ((liter (mch R) (tF tab) z k).1.getD k 0) (liter (mch R) (tF tab) z k).1 0).2 :=
      ⟨I.s.trans m1, I.fl, (gan I.hf).symm, (gan I.hl).symm, by rw [upd_ne (gan I.hf)]; exact I.hf, by rw [upd_ne (gan I.hn)]; exact I.hn, by rw [upd_ne (gan I.hl)]; exact I.hl, upd_same, by rw [upd_ne (gan hkx)]; exact hkx, kaN.1, gan hkx, kaN.2.2, paired_mono mono_mr m1 I.pr, .nil⟩
    have lro := fun i hi => lrow_ok g.nxt flt fok i hi
    have af : atI (tN (liter (mch R) (tF tab) z k).1) ((ws.length : Nat) : Int) = some (V.int (((liter (mch R) (tF tab) z k).1.getD k 0 : Nat) : Int)) := by rw [wl]; exact atI_nat (tN_at kl)
    have hup := I.up
    have Fdef : (liter (mch R) (tF tab) z (k + 1)) = ((lrow (mch R) (tF tab) ((liter (mch R) (tF tab) z k).1.getD k 0) (liter (mch R) (tF tab) z k).1 (mch R).asks).1, (liter (mch R) (tF tab) z k).2 ++ [(lrow (mch R) (tF tab) ((liter (mch R) (tF tab) z k).1.getD k 0) (liter (mch R) (tF tab) z k).1 (mch R).asks).2]) := rfl
    generalize (liter (mch R) (tF tab) z k).1.getD k 0 = fs at J0 lro af flt Fdef
    obtain ⟨u, hu, hru⟩ := hat fs _ (List.getElem?_eq_getElem flt)
    obtain ⟨ra, ru, rfl, hra, rul, rat⟩ := mr_parts hru
    have rlen : R[fs].length = (mch R).asks := by have := (g.go _ (List.getElem_mem flt)).len; show _ = (R.headD []).length; omega
    have sx0 : Same H (upd Hx ga (.lst [])) := J0.s.trans hid_same
    refine ⟨_, rfl, _, rfl, _, rfl, la, _, rfl, .inl (SqL.of J0.hl), fa, _, _, _, rfl, rfl, SqL.of J0.hf, af, a, _, _, _, rfl, rfl, SqL.of (sx0 _ _ ha), atI_nat hu, ra, rfl, ⟨_, SqL.of (sx0 _ _ hra)⟩,
      for_list (K := K) (a := ra) (xs := ru) (fun i σ H6 => ∃ (ys : List V) (y2 y3 : Option V), σ = [some (.ref tm), some (.ref a), some (.ref ka), some (.ref fa), some (.ref na), some (.ref la), some (.ref ga), y2, y3] ∧ LmI R (tF tab) z k H H6 fa na la ga ka tab ws ys (lrow (mch R) (tF tab) fs (liter (mch R) (tF tab) z k).1 i).1 (lrow (mch R) (tF tab) fs (liter (mch R) (tF tab) z k).1 i).2) ⟨[], _, _, rfl, J0⟩ (fun i σ H6 _ h => ?_) (fun i x σ H6 hi h => ?_) (fun σ H6 h => ?_)⟩
    · obtain ⟨_, _, _, _, J⟩ := h
      exact SqL.of ((J.s.trans hid_same) _ _ hra)
    · obtain ⟨ys, y2, y3, rfl, J⟩ := h
      have il : i < R[fs].length := by rw [← rul]; exact (List.getElem?_eq_some_iff.mp hi).1
      have ia : i < (mch R).asks := by omega
      obtain ⟨r1, x1, q11, q12, q13, q14, q15, _⟩ := g.at flt ia
      rw [List.getElem?_eq_getElem flt] at q11
      injection q11 with q11
      subst q11
      obtain ⟨tt, htt', htt⟩ := rat _ _ q12
      rw [hi] at htt'
      injection htt' with htt'
      subst htt'
      rw [q13, q14] at htt
      have sJ := J.s.trans hid_same
      have lo := lro i (by omega)
      have lfew := lo.1.few
      have lrl := lo.2.2.len
      have yl : ys.length = i := by have := pr_len J.py; unfold lRw at this; rw [List.length_map] at this; omega
      have ak : atI (tN tab) (((mch R).nxt fs i : Nat) : Int) = some (V.int ((tF tab ((mch R).nxt fs i) : Nat) : Int)) := atI_nat (tN_at (by omega))
      refine ⟨_, rfl, _, rfl, tt, _, _, _, rfl, rfl, SqT.of (sJ _ _ htt), atI_nat (j := 1) rfl, ka, _, _, _, rfl, rfl, SqL.of J.hk, ak, ?_⟩
      have ls : lrow (mch R) (tF tab) fs (liter (mch R) (tF tab) z k).1 (i + 1) = lstp (mch R) (tF tab) (lrow (mch R) (tF tab) fs (liter (mch R) (tF tab) z k).1 i) fs i := rfl
      rw [ls]
      unfold lstp
      generalize lrow (mch R) (tF tab) fs (liter (mch R) (tF tab) z k).1 i = lw at J lo lfew lrl ⊢
      refine ⟨fun σ' H' => σ' = [some (.ref tm), some (.ref a), some (.ref ka), some (.ref fa), some (.ref na), some (.ref la), some (.ref ga), some (.ref tt), some (.int ((tF tab ((mch R).nxt fs i) : Nat) : Int))] ∧ LmI R (tF tab) z k H H' fa na la ga ka tab ws ys ((fnd (tF tab) lw.1 ((mch R).nxt fs i)).elim (lw.1 ++ [(mch R).nxt fs i]) fun _ => lw.1) lw.2, ?_, ?_⟩
      · refine ⟨_, rfl, _, rfl, na, _, rfl, DGet.k (k := Sum.inl ((tF tab ((mch R).nxt fs i) : Nat) : Int)) J.hn, _, rfl, ?_⟩
        rw [nk_val]
        cases ef2 : fnd (tF tab) lw.1 ((mch R).nxt fs i) with
        | some j =>
          refine iteF ?_
          exact ⟨rfl, J⟩
        | none =>
          refine iteT ?_
          refine ⟨_, rfl, fa, _, rfl, .inl (SqL.of J.hf), _, rfl, _, rfl, na, _, rfl, DPut.k (k := Sum.inl ((tF tab ((mch R).nxt fs i) : Nat) : Int)) J.hn (smlt (m := 1000) (by rw [nk_len]; omega)), ?_⟩
          rw [tN_len, nk_put ef2]
          have nf : fa ≠ na := fun z => by have := J.hf; rw [z, J.hn] at this; cases this
          have hf7 : upd H6 na (.dK (nkv (tF tab) 0 (lw.1 ++ [(mch R).nxt fs i]))) fa = some (.lst (tN lw.1)) := by rw [upd_ne nf]; exact J.hf
          have tn : tt ≠ na := fun z => by have := J.hn; rw [← z, sJ _ _ htt] at this; cases this
          refine ⟨_, rfl, .inl ⟨rfl, _, SqL.of hf7⟩, _, rfl, tt, _, _, _, rfl, rfl, SqT.of (by rw [upd_ne tn]; exact sJ _ _ htt), atI_nat (j := 1) rfl, fa, _, _, rfl, rfl, hf7, smlt (m := 1000) (by rw [tN_len]; omega), rfl, ?_⟩
          have e9 : tN lw.1 ++ [V.int (((mch R).nxt fs i : Nat) : Int)] = tN (lw.1 ++ [(mch R).nxt fs i]) := by unfold tN; rw [List.map_append]; rfl
          rw [e9]
          exact J.grow
      rintro σ' H7 ⟨rfl, J7⟩
      have sJ7 := J7.s.trans hid_same
      have hval : valV (nkv (tF tab) 0 ((fnd (tF tab) lw.1 ((mch R).nxt fs i)).elim (lw.1 ++ [(mch R).nxt fs i]) fun _ => lw.1)) (Sum.inl ((tF tab ((mch R).nxt fs i) : Nat) : Int)) = some (V.int (((fnd (tF tab) lw.1 ((mch R).nxt fs i)).getD lw.1.length : Nat) : Int)) := by
        cases ef2 : fnd (tF tab) lw.1 ((mch R).nxt fs i) with
        | some j =>
          show valV (nkv (tF tab) 0 lw.1) _ = _
          rw [nk_val, ef2]
          show some (V.int ((0 + j : Nat) : Int)) = some (V.int (j : Int))
          rw [Nat.zero_add]
        | none =>
          show valV (nkv (tF tab) 0 (lw.1 ++ [(mch R).nxt fs i])) _ = some (V.int (lw.1.length : Int))
          rw [nk_val]
          have : fnd (tF tab) (lw.1 ++ [(mch R).nxt fs i]) ((mch R).nxt fs i) = some lw.1.length := by
            unfold fnd at ef2 ⊢
            rw [List.findIdx?_append, ef2]
            show (Option.map _ (List.findIdx? _ [(mch R).nxt fs i])) = _
            rw [List.findIdx?_cons, if_pos (decide_eq_true rfl)]
            show some (0 + lw.1.length) = _
            rw [Nat.zero_add]
          rw [this]
          show some (V.int ((0 + lw.1.length : Nat) : Int)) = _
          rw [Nat.zero_add]
      refine ⟨_, rfl, .inl ⟨rfl, _, SqL.of J7.hg⟩, _, rfl, tt, _, _, _, rfl, rfl, SqT.of (sJ7 _ _ htt), atI_nat (j := 0) rfl, _, rfl, _, rfl, na, _, rfl, by rw [← hval]; exact DGet.k (k := Sum.inl ((tF tab ((mch R).nxt fs i) : Nat) : Int)) J7.hn, (by show 2 ≤ sizeLine; decide), fun tp htp => ?_⟩
      exact ⟨ga, ys, _, rfl, rfl, same_upd htp _ _ _ J7.hg, smlt (m := 1000) (by omega), _, _, _, rfl, J7.push htp⟩
    · obtain ⟨ys, y2, y3, rfl, J⟩ := h
      rw [rul, rlen] at J
      refine ⟨_, rfl, .inl ⟨rfl, _, SqL.of J.hl⟩, _, rfl, la, ws, _, rfl, rfl, J.hl, smlt (m := 1000) (by omega), ?_⟩
      have m2 : Same (hid [ga, fa, na, la] H6) (hid [fa, na, la] (upd H6 la (.lst (ws ++ [V.ref ga])))) := by
        rw [hid_upd (by simp)]
        exact hid_less fun c hc => List.mem_cons_of_mem _ hc
      have nl : na ≠ la := fun z => by have := J.hn; rw [z, J.hl] at this; cases this
      have ng : ga ≠ na := fun z => by have := J.hn; rw [← z, J.hg] at this; cases this
      refine ⟨R.length - (k + 1), by omega, ⟨k + 1, ws ++ [V.ref ga], _, _, _, rfl, ⟨J.s.trans m2, J.fl, ?_, ?_, upd_same, ?_, fun j hj => ?_⟩, rfl⟩, by rw [upd_ne J.kl]; exact J.hk⟩
      · rw [upd_ne J.fl, Fdef]; exact J.hf
      · rw [upd_ne nl, Fdef]; exact J.hn
      · rw [Fdef]
        unfold lInt
        rw [List.map_append]
        refine L2.Paired.app (paired_mono mono_mr m2 J.pr) (.cons ⟨ga, ys, rfl, ?_, paired_mono (mono_t2 mono_int mono_int) m2 J.py⟩ .nil)
        rw [hid_at (by simp; exact ⟨J.gf, ng, J.gl⟩), upd_ne J.gl]; exact J.hg
      · rcases Nat.lt_or_ge j k with c1 | c1
        · exact hup j c1
        · rw [show j = k by omega]; exact kl
  · have c : ¬ ((ws.length : Nat) : Int) < (((tN (liter (mch R) (tF tab) z k).1).length : Nat) : Int) := fun z => c (decide_eq_true z)
    rw [tN_len] at c
    refine ⟨_, rfl, (by show 2 ≤ sizeLine; decide), fun tp htp => ?_⟩
    have s7 := same_upd htp (.tup [V.int 0, V.ref la])
    refine q _ _ _ _ ((I.s.trans hid_same).trans s7) kd ⟨k, rfl, by omega, I.up⟩ ⟨tp, _, _, rfl, upd_same, rfl, la, ws, rfl, s7 _ _ I.hl, paired_mono mono_mr (hid_same.trans s7) I.pr⟩
structure MI (n m : Int) (R : List MRow) : Prop where
  n1 : 1 ≤ n
  n6 : n ≤ 160
  m1 : 1 ≤ m
  m3 : m ≤ 8
  len : (R.length : Int) = n
  row : ∀ r ∈ R, (r.length : Int) = m ∧ ∀ p ∈ r, 0 ≤ p.2 ∧ p.2 < n
theorem MI.hd {n m : Int} {R : List MRow} (h : MI n m R) : ((R.headD []).length : Int) = m := by
  have l := h.len
  have n1 := h.n1
  cases R with
  | nil => exfalso; simp at l; omega
  | cons r R => exact (h.row r List.mem_cons_self).1
theorem MI.rw {n m : Int} {R : List MRow} (h : MI n m R) : ∀ r ∈ R, RwOk ((R.headD []).length : Int) R.length r := fun r hr => by
  have l := h.len
  have m1 := h.m1
  refine ⟨fun e => ?_, ?_, fun p hp => ?_⟩
  · have := (h.row r hr).1; rw [e] at this; simp at this; omega
  · rw [h.hd]; exact (h.row r hr).1
  · rw [l]; exact (h.row r hr).2 p hp
theorem MI.g {n m : Int} {R : List MRow} (h : MI n m R) : MG R := by
  have l := h.len
  have n1 := h.n1
  have n6 := h.n6
  exact ⟨by omega, by omega, fun r hr => by have := (h.row r hr).1; have := h.m3; omega, h.rw⟩
theorem MI.ok {n m z : Int} {R : List MRow} (h : MI n m R) (hz : 0 ≤ z ∧ z < n) : MOk z R := by
  have l := h.len
  exact ⟨by omega, h.rw⟩
def spFree (K : PySem.W.Frag) : Sp := fun vs H Q _ => ∃ (a : Addr) (ns : List Int) (n m : Int), vs = [.ref a, .int n, .int m] ∧ SqL K H a (ns.map V.int) ∧ ns.length ≤ 63 ∧ 1 ≤ n ∧ n ≤ 10 ∧ 1 ≤ m ∧ m ≤ 8 ∧ ∀ (v : V) (R : List MRow) (H' : Hp), Same H H' → rMs H' R v → MI n m R → Q v H'
theorem ok_free (F : DefAt K mg "_law_free" s_law_free ["_law_script", "_law_states", "_law_asks"]) (T : Txt mg) (D_law_at : Dn P w K mg base "_law_at" 1 ["_law_script", "_law_k"] (spAt K)) : Dn P w K mg base "_law_free" 2 ["_law_script", "_law_states", "_law_asks"] (spFree K) := by
  have sc := sc_law_free
  refine F.ok sc (fun vs H Q E h => ?_) (fun f cdv A outer s H vs Q E hr h => ?_)
  · obtain ⟨_, _, _, _, rfl, _⟩ := h; rfl
  obtain ⟨a, ns, n, m, rfl, hS, h63, n1, n6, m1, m3, q⟩ := h
  refine ⟨_, (pss_cons (ps_set (i := 3) sc.nd rfl (Or.inl rfl) (pe_lst pa_nil))
      (pss_cons (ps_for PassesOwn.never rfl (pi_range1 rfl T.b_range (pa_cons (pv 1) pa_nil)) (pg_name (i := 4) sc.nd rfl (Or.inl rfl))
      (pss_cons (ps_set (i := 5) sc.nd rfl (Or.inl rfl) (pe_lst pa_nil))
      (pss_cons (ps_for PassesOwn.never rfl (pi_range1 rfl T.b_range (pa_cons (pv 2) pa_nil)) (pg_name (i := 6) sc.nd rfl (Or.inl rfl))
      (pss_cons (ps_set (i := 7) sc.nd rfl (Or.inl rfl) (pe_dn D_law_at hr (pa_cons (pv 0) (pa_cons (pe_op op_add (pe_op op_add pe_int (pe_op op_mul (pv 4) (pv 2))) (pv 6)) pa_nil))))
      (pss_one (ps_expr (pe_bm PySem.F.plainAttrs_list PySem.F.slot_list_append PySem.F.type_list_append mt_append (pv 5) (pa_cons (pe_tup (pa_cons (pe_op op_mod (pv 7) pe_int) (pa_cons (pe_op op_mod (pe_op op_fdiv (pv 7) pe_int) (pv 1)) pa_nil))) pa_nil))))))
      (pss_one (ps_expr (pe_bm PySem.F.plainAttrs_list PySem.F.slot_list_append PySem.F.type_list_append mt_append (pv 3) (pa_cons (pv 5) pa_nil)))))))
      (pss_one (ps_ret (pv 3))))), ?_⟩
  refine ⟨Nat.zero_le _, fun g hg => ?_⟩
  refine ⟨_, rfl, n, rfl, by omega, by omega, for_range (lo := 0) (n := n.toNat) (fun i σ H2 => ∃ (R : List MRow) (y1 y2 y3 y4 : Option V), σ = [some (.ref a), some (.int n), some (.int m), some (.ref g), y1, y2, y3, y4] ∧ Bld rMR H H2 g R ∧ R.length = i ∧ ∀ r ∈ R, (r.length : Int) = m ∧ ∀ p ∈ r, 0 ≤ p.2 ∧ p.2 < n)
    ⟨[], _, _, _, _, rfl, Bld.start (Same.refl _) hg, rfl, fun _ z => by cases z⟩ (fun i σ H2 hi h => ?_) (fun σ H2 h => ?_)⟩
  · obtain ⟨R, y1, y2, y3, y4, rfl, b, hl, hk⟩ := h
    refine ⟨Nat.zero_le _, fun gr hgr => ?_⟩
    refine ⟨_, rfl, m, rfl, by omega, by omega, for_range (lo := 0) (n := m.toNat) (fun j σ H3 => ∃ (r : MRow) (y3 y4 : Option V), σ = [some (.ref a), some (.int n), some (.int m), some (.ref g), some (.int (0 + (i : Nat))), some (.ref gr), y3, y4] ∧ Bld (rT2 rInt rInt) H2 H3 gr r ∧ r.length = j ∧ ∀ p ∈ r, 0 ≤ p.2 ∧ p.2 < n)
      ⟨[], _, _, rfl, Bld.start (Same.refl _) hgr, rfl, fun _ z => by cases z⟩ (fun j σ H3 hj h => ?_) (fun σ H3 h => ?_)⟩
    · obtain ⟨r, y3, y4, rfl, c, rl, rk⟩ := h
      have sH := b.s.trans c.s
      have ij : 0 ≤ (0 + (i : Int)) * m ∧ (0 + (i : Int)) * m ≤ 10 * 8 := ⟨Int.mul_nonneg (by omega) (by omega), Int.mul_le_mul (by omega) (by omega) (by omega) (by decide)⟩
      refine ⟨_, rfl, _, rfl, _, rfl, _, _, rfl, rfl, .inl ⟨by omega, by omega⟩, _, _, rfl, rfl, _, rfl, _, _, rfl, rfl, a, ns, _, rfl, sH.seq hS, h63, by omega, by omega, fun cell => ?_⟩
      obtain ⟨gvs, hgv, _⟩ := c.sq
      refine ⟨_, rfl, .inl ⟨rfl, _, SqL.of hgv⟩, _, rfl, _, _, rfl, rfl, (show (0 : Int) < 2 by decide), _, rfl, _, _, rfl, rfl, ⟨by decide, by decide⟩, _, rfl, _, _, rfl, rfl, (show (0 : Int) < n by omega), (by show 2 ≤ sizeLine; decide), fun t ht => ?_⟩
      obtain ⟨vs4, k1, k2, c4⟩ := c.push (mono_t2 mono_int mono_int) (same_upd ht _) (x := (cell % 2, cell / 2 % n)) (v := .ref t) ⟨t, _, _, rfl, (by rw [newp_at ht]; exact upd_same), rfl, rfl⟩
      refine ⟨gr, vs4, _, rfl, rfl, k1, smlt (m := 1000) (by omega), ?_⟩
      refine ⟨_, _, _, rfl, c4, by simp [rl], fun p hp => ?_⟩
      rcases List.mem_append.mp hp with h | h
      · exact rk p h
      · rw [List.mem_singleton.mp h]
        exact ⟨Int.emod_nonneg _ (by omega), Int.emod_lt_of_pos _ (by omega)⟩
    · obtain ⟨r, y3, y4, rfl, c, rl, rk⟩ := h
      obtain ⟨gvs, hgv, _⟩ := b.sq
      obtain ⟨vs4, k1, k2, b4⟩ := b.push mono_mr c.s (c.done (mono_t2 mono_int mono_int))
      refine ⟨_, rfl, .inl ⟨rfl, _, SqL.of k1⟩, _, rfl, g, vs4, _, rfl, rfl, k1, smlt (m := 1000) (by omega), ?_⟩
      refine ⟨_, _, _, _, _, rfl, b4, by simp [hl], fun p hp => ?_⟩
      rcases List.mem_append.mp hp with h | h
      · exact hk p h
      · rw [List.mem_singleton.mp h]
        exact ⟨by omega, rk⟩
  · obtain ⟨R, y1, y2, y3, y4, rfl, b, hl, hk⟩ := h
    exact ⟨_, rfl, q _ R _ b.s (mono_ms.up (newp_same _ _) (b.done mono_mr)) ⟨n1, by omega, m1, m3, by omega, hk⟩⟩
theorem pr_set {α β : Type} {F : α → β → Prop} {x : α} {y : β} (h : F x y) : ∀ {xs : List α} {ys : List β} (n : Nat), Paired F xs ys → Paired F (xs.set n x) (ys.set n y)
  | _, _, _, .nil => .nil
  | _, _, 0, .cons _ t => .cons h t
  | _, _, n + 1, .cons r t => .cons r (pr_set h n t)
def kPr (x : Nat × Nat) : List Key := [Sum.inl (x.1 : Int), Sum.inl (x.2 : Int)]
theorem kPr_inj {a b : Nat × Nat} (h : kPr a = kPr b) : a = b := by
  unfold kPr at h
  injection h with h1 h2
  injection h2 with h2 _
  injection h1 with h1
  injection h2 with h2
  exact Prod.ext (by omega) (by omega)
def Wy (H : Hp) (L : List Pr) (kvs : List (List Key × V)) : Prop := Paired (fun (x : Pr) (e : List Key × V) => e.1 = kPr x.1 ∧ rTab H x.2 e.2) L kvs
theorem Wy.up {H H' : Hp} {L : List Pr} {kvs : List (List Key × V)} (n : Wy H L kvs) (s : Same H H') : Wy H' L kvs := L2.Paired.imp' (fun _ _ z => ⟨z.1, mono_tab.up s z.2⟩) n
theorem Wy.keys {H : Hp} {L : List Pr} {kvs : List (List Key × V)} (n : Wy H L kvs) : kvs.map (·.1) = (L.map (·.1)).map kPr := by
  unfold Wy at n
  induction n with
  | nil => rfl
  | cons h _ ih => rw [List.map_cons, List.map_cons, List.map_cons, ih, h.1]
theorem Wy.val {H : Hp} {L : List Pr} {kvs : List (List Key × V)} (n : Wy H L kvs) (nd : (L.map (·.1)).Nodup) {i : Nat} {x : Pr} (hx : L[i]? = some x) : ∃ la, valV kvs (kPr x.1) = some (.ref la) ∧ H la = some (.lst (tN x.2)) := by
  unfold Wy at n
  induction n generalizing i with
  | nil => cases hx
  | @cons q e ps kvs h t ih =>
    rw [List.map_cons, List.nodup_cons] at nd
    cases i with
    | zero =>
      cases hx
      obtain ⟨h1, la, h2, h3⟩ := h
      refine ⟨la, ?_, h3⟩
      unfold valV
      rw [List.find?_cons_of_pos (by rw [h1]; exact decide_eq_true rfl), ← h2]; rfl
    | succ i =>
      have hx : ps[i]? = some x := hx
      obtain ⟨la, h1, h2⟩ := ih nd.2 hx
      refine ⟨la, ?_, h2⟩
      unfold valV at h1 ⊢
      rw [List.find?_cons_of_neg]
      · exact h1
      · rw [h.1]
        intro z
        have := kPr_inj (of_decide_eq_true z)
        exact nd.1 (by rw [this]; exact List.mem_map.mpr ⟨x, List.mem_of_getElem? hx, rfl⟩)
theorem Wy.has {H : Hp} {L : List Pr} {kvs : List (List Key × V)} (n : Wy H L kvs) (x : Nat × Nat) : (valV kvs (kPr x)).isSome = decide (x ∈ L.map (·.1)) := by
  have e := n.keys
  unfold valV
  rw [Option.isSome_map, Bool.eq_iff_iff, List.find?_isSome, decide_eq_true_eq]
  constructor
  · rintro ⟨kv, hm, he⟩
    have : kv.1 ∈ kvs.map (·.1) := List.mem_map.mpr ⟨kv, hm, rfl⟩
    rw [e] at this
    obtain ⟨y, hy, ey⟩ := List.mem_map.mp this
    rw [of_decide_eq_true he] at ey
    rw [← kPr_inj ey]; exact hy
  · intro hx
    have : kPr x ∈ kvs.map (·.1) := by rw [e]; exact List.mem_map.mpr ⟨x, hx, rfl⟩
    obtain ⟨kv, hm, he⟩ := List.mem_map.mp this
    exact ⟨kv, hm, decide_eq_true he⟩
theorem Wy.put {H : Hp} {L : List Pr} {kvs : List (List Key × V)} (n : Wy H L kvs) {x : Nat × Nat} {v : V} (h : x ∉ L.map (·.1)) : putK kvs (kPr x) v = kvs ++ [(kPr x, v)] := by
  have e := n.keys
  unfold putK
  rw [if_neg]
  intro ha
  obtain ⟨kv, hm, he⟩ := List.any_eq_true.mp ha
  have : kv.1 ∈ kvs.map (·.1) := List.mem_map.mpr ⟨kv, hm, rfl⟩
  rw [e, of_decide_eq_true he] at this
  obtain ⟨y, hy, ey⟩ := List.mem_map.mp this
  exact h (by rw [← kPr_inj ey]; exact hy)
def rPr : Rel (Nat × Nat) := fun H x v => ∃ b, v = V.ref b ∧ H b = some (.tup [V.int (x.1 : Int), V.int (x.2 : Int)])
theorem mono_pr : MonoR rPr := ⟨fun H H' x v s h => by obtain ⟨a, rfl, ha⟩ := h; exact ⟨a, rfl, s _ _ ha⟩⟩
theorem same_mn {A B : Hp} {d w : Addr} (h : ∀ c o, A c = some o → c ≠ d ∧ c ≠ w ∧ B c = some o) : Same A (mn B d w) := fun c o e => by
  obtain ⟨h1, h2, h3⟩ := h c o e
  rw [mn_at h1 h2]; exact h3
theorem pairs_few {n : Nat} {S : List (Nat × Nat)} (nd : S.Nodup) (h : ∀ x ∈ S, x.1 < n ∧ x.2 < n) : S.length ≤ n * n := by
  have n2 : (S.map fun x => x.1 * n + x.2).Nodup := by
    rw [List.Nodup, List.pairwise_map]
    refine List.Pairwise.imp_of_mem (fun {a b} ha hb hab e => hab ?_) nd
    have h1 := h a ha
    have h2 := h b hb
    have e1 : (a.1 * n + a.2) / n = a.1 := by rw [Nat.mul_comm, Nat.mul_add_div (by omega), Nat.div_eq_of_lt h1.2, Nat.add_zero]
    have e2 : (b.1 * n + b.2) / n = b.1 := by rw [Nat.mul_comm, Nat.mul_add_div (by omega), Nat.div_eq_of_lt h2.2, Nat.add_zero]
    have e' : a.1 * n + a.2 = b.1 * n + b.2 := e
    have e3 : a.1 = b.1 := by rw [← e1, ← e2, e']
    rw [e3] at e'
    exact Prod.ext e3 (by omega)
  have := nodup_subA _ (List.range (n * n)) n2 fun x hx => by
    obtain ⟨y, hy, rfl⟩ := List.mem_map.mp hx
    have h1 := h y hy
    refine List.mem_range.mpr ?_
    have : y.1 * n + n ≤ n * n := by rw [← Nat.succ_mul]; exact Nat.mul_le_mul_right _ h1.1
    omega
  rw [List.length_map, List.length_range] at this
  exact this
structure BfH (R : List MRow) (p q : Nat) (H Hx : Hp) (d wa : Addr) (L : List Pr) (kvs : List (List Key × V)) (ws : List V) : Prop where
  s : Same H (mn Hx d wa)
  dw : d ≠ wa
  hd : Hx d = some (.dT kvs)
  hw : Hx wa = some (.lst ws)
  wy : Wy (mn Hx d wa) L kvs
  pr : Paired (rPr (mn Hx d wa)) (L.map (·.1)) ws
  nd : (L.map (·.1)).Nodup
  ins : ∀ x ∈ L.map (·.1), x.1 < R.length ∧ x.2 < R.length
  sh : ∀ (i : Nat) x, L[i]? = some x → x.2.length ≤ i
theorem BfH.few {R : List MRow} {p q : Nat} {H Hx : Hp} {d wa : Addr} {L : List Pr} {kvs : List (List Key × V)} {ws : List V} (h : BfH R p q H Hx d wa L kvs ws) : L.length ≤ R.length * R.length := by
  have := pairs_few h.nd h.ins
  rwa [List.length_map] at this
theorem BfH.go {R : List MRow} {p q : Nat} {H Hx Hy : Hp} {d wa : Addr} {L : List Pr} {kvs : List (List Key × V)} {ws : List V} (h : BfH R p q H Hx d wa L kvs ws) (s : Same Hx Hy) : BfH R p q H Hy d wa L kvs ws := by
  have m := mn_mono (a := d) (b := wa) s
  exact ⟨h.s.trans m, h.dw, s _ _ h.hd, s _ _ h.hw, h.wy.up m, paired_mono mono_pr m h.pr, h.nd, h.ins, h.sh⟩
theorem BfH.grow {R : List MRow} {p q : Nat} {H Hx : Hp} {d wa : Addr} {L : List Pr} {kvs : List (List Key × V)} {ws : List V} (h : BfH R p q H Hx d wa L kvs ws) {y : Nat × Nat} {row : List Nat} {bp l2 : Addr} (hn : y ∉ L.map (·.1)) (hy : y.1 < R.length ∧ y.2 < R.length) (hb : Hx bp = some (.tup [V.int (y.1 : Int), V.int (y.2 : Int)])) (hl : Hx l2 = some (.lst (tN row))) (nl : l2 ≠ wa) (hr : row.length ≤ L.length) :
    BfH R p q H (upd (upd Hx d (.dT (kvs ++ [(kPr y, V.ref l2)]))) wa (.lst (ws ++ [V.ref bp]))) d wa (L ++ [(y, row)]) (kvs ++ [(kPr y, V.ref l2)]) (ws ++ [V.ref bp]) := by
  have dw := h.dw
  have at9 : ∀ c, c ≠ d → c ≠ wa → upd (upd Hx d (.dT (kvs ++ [(kPr y, V.ref l2)]))) wa (.lst (ws ++ [V.ref bp])) c = Hx c := fun c h1 h2 => by rw [upd_ne h2, upd_ne h1]
  have m : Same (mn Hx d wa) (mn (upd (upd Hx d (.dT (kvs ++ [(kPr y, V.ref l2)]))) wa (.lst (ws ++ [V.ref bp]))) d wa) := same_mn fun c o e => by
    obtain ⟨e1, e2⟩ := mn_ne e
    exact ⟨e1, e2, by rw [at9 c e1 e2]; exact mn_same _ _ e⟩
  have b1 : bp ≠ d := fun z => by rw [z, h.hd] at hb; cases hb
  have b2 : bp ≠ wa := fun z => by rw [z, h.hw] at hb; cases hb
  have l1 : l2 ≠ d := fun z => by rw [z, h.hd] at hl; cases hl
  refine ⟨h.s.trans m, dw, by rw [upd_ne dw]; exact upd_same, upd_same, L2.Paired.app (h.wy.up m) (.cons ⟨rfl, l2, rfl, by rw [mn_at l1 nl, at9 _ l1 nl]; exact hl⟩ .nil), ?_, ?_, fun x hx => ?_, fun i x hx => ?_⟩
  · rw [List.map_append]
    exact L2.Paired.app (paired_mono mono_pr m h.pr) (.cons ⟨bp, rfl, by rw [mn_at b1 b2, at9 _ b1 b2]; exact hb⟩ .nil)
  · rw [List.map_append]
    exact List.nodup_append.mpr ⟨h.nd, by simp, fun a ha b hb e => by
      have : b = y := by simpa using hb
      rw [e, this] at ha; exact hn ha⟩
  · rw [List.map_append] at hx
    rcases List.mem_append.mp hx with z | z
    · exact h.ins x z
    · rw [show x = y by simpa using z]; exact hy
  · rcases snoc_get hx with z | ⟨rfl, rfl⟩
    · exact h.sh i x z
    · exact hr
theorem tN_snoc (t : List Nat) (i : Nat) : tN t ++ [V.int (0 + (i : Nat))] = tN (t ++ [i]) := by
  unfold tN; rw [List.map_append, Int.zero_add]; rfl
def FrQ (R : List MRow) (one other : Nat) (H : Hp) (Q : VK) : Prop := ((∀ s, ¬ tlA (mch R) s one other) → ∀ H', Same H H' → Q .non H') ∧ ∀ s, Bst (mch R) s one other → ∀ (l : Addr) (H' : Hp), Same H H' → H' l = some (.lst (tN s)) → s.length ≤ 160000 → Q (.ref l) H'
def spFst : Sp := fun vs H Q _ => ∃ (v v' : V) (R1 R2 : List MRow) (one other : Nat), vs = [v, v', .int (one : Int), .int (other : Int)] ∧ rMs H R1 v ∧ rMs H R2 v' ∧ TwoOk R1 R2 ∧ one < R1.length ∧ other < R2.length ∧ FrQ (two R1 R2) one (R1.length + other) H Q
def shL (o : Nat) (L : List Pr) : List Pr := L.map fun x => ((x.1.1, x.1.2 - o), x.2)
theorem shL_at {o : Nat} {L : List Pr} {k p y : Nat} {r : List Nat} (h : L[k]? = some ((p, o + y), r)) : (shL o L)[k]? = some ((p, y), r) := by
  unfold shL; rw [List.getElem?_map, h]; show some ((p, o + y - o), r) = _; rw [Nat.add_sub_cancel_left]
theorem shL_len {o : Nat} {L : List Pr} : (shL o L).length = L.length := List.length_map _
theorem shL_snoc {o : Nat} {L : List Pr} {p y : Nat} {r : List Nat} : shL o (L ++ [((p, o + y), r)]) = shL o L ++ [((p, y), r)] := by
  unfold shL; rw [List.map_append]; show _ ++ [((p, o + y - o), r)] = _; rw [Nat.add_sub_cancel_left]
def InL (o n : Nat) (L : List Pr) : Prop := ∀ x ∈ L, x.1.1 < o ∧ o ≤ x.1.2 ∧ x.1.2 < o + n
def FsW (R1 R2 : List MRow) (p q : Nat) (H : Hp) (a a' d wa : Addr) (m : Nat) (σ : St) (Hx : Hp) : Prop := ∃ (L : List Pr) (k : Nat) (kvs : List (List Key × V)) (ws : List V) (y1 y2 y3 y4 : Option V), σ = [some (.ref a), some (.ref a'), some (.int (p : Int)), some (.int (q : Int)), some (.ref d), some (.ref wa), some (.int (k : Int)), y1, y2, y3, y4] ∧ BfH (two R1 R2) p q H Hx d wa (shL R1.length L) kvs ws ∧ InL R1.length R2.length L ∧ Bfs (mch (two R1 R2)) p (R1.length + q) L k 0 ∧ m = (two R1 R2).length * (two R1 R2).length + 1 - k
theorem ok_fst (F : DefAt K mg "_law_first" s_law_first ["_law_rows", "_law_others", "_law_one", "_law_other"]) (T : Txt mg) : Dn P w K mg base "_law_first" 1 ["_law_rows", "_law_others", "_law_one", "_law_other"] spFst := by
  have sc := sc_law_first
  refine F.ok sc (fun vs H Q E h => ?_) (fun f cdv A outer s H vs Q E hr h => ?_)
  · obtain ⟨_, _, _, _, _, _, rfl, _⟩ := h; rfl
  obtain ⟨v, v', R1, R2, one, other, rfl, hv, hv', tw, h1, h2, q1, q2⟩ := h
  obtain ⟨a, us, rfl, ha, ul, hat⟩ := ms_parts hv
  obtain ⟨a', us', rfl, ha', ul', hat'⟩ := ms_parts hv'
  have g := tw.mg2
  have tl := tw.len
  have tk := tw.ak
  have tas := tw.asks
  refine ⟨_, (pss_cons (ps_set (i := 4) sc.nd rfl (Or.inl rfl) (pe_dispT (hu_n hr 0) (pe_tup (pa_cons (pv 2) (pa_cons (pv 3) pa_nil))) (pe_lst pa_nil)))
      (pss_cons (ps_set (i := 5) sc.nd rfl (Or.inl rfl) (pe_lst (pa_cons (pe_tup (pa_cons (pv 2) (pa_cons (pv 3) pa_nil))) pa_nil)))
      (pss_cons (ps_set (i := 6) sc.nd rfl (Or.inl rfl) pe_int)
      (pss_cons (ps_while PassesOwn.never (pt_cmpR op_lt (pv 6) (pe_callB (clLen (K := K) rfl) rfl T.b_len PySem.boot_len (pa_cons (pv 5) pa_nil)) (nomark _))
      (pss_cons (ps_asg (pe_ix (ixL (K := K) rfl) (pv 5) (pv 6) (fun _ _ => rfl)) (pg_tup rfl (pgs_cons (pg_name (i := 7) sc.nd rfl (Or.inl rfl)) (pgs_cons (pg_name (i := 8) sc.nd rfl (Or.inl rfl)) pgs_nil))))
      (pss_cons (ps_for PassesOwn.never rfl (pi_range1 rfl T.b_range (pa_cons (pe_callB (clLen (K := K) rfl) rfl T.b_len PySem.boot_len (pa_cons (pe_ix (ixL (K := K) rfl) (pv 0) (pv 7) (fun _ _ => rfl)) pa_nil)) pa_nil)) (pg_name (i := 9) sc.nd rfl (Or.inl rfl))
      (pss_cons (ps_if (pt_cmpR op_ne (pe_ix (ixT (K := K) rfl) (pe_ix (ixL (K := K) rfl) (pe_ix (ixL (K := K) rfl) (pv 0) (pv 7) (fun _ _ => rfl)) (pv 9) (fun _ _ => rfl)) pe_int (fun _ _ => rfl)) (pe_ix (ixT (K := K) rfl) (pe_ix (ixL (K := K) rfl) (pe_ix (ixL (K := K) rfl) (pv 1) (pv 8) (fun _ _ => rfl)) (pv 9) (fun _ _ => rfl)) pe_int (fun _ _ => rfl)) (nomark _))
      (pss_one (ps_ret (pe_op op_cat (pe_dget (hu_n hr 1) (pv 4) (pe_ix (ixL (K := K) rfl) (pv 5) (pv 6) (fun _ _ => rfl)) (fun _ _ => rfl)) (pe_lst (pa_cons (pv 9) pa_nil)))))
      pss_nil)
      (pss_cons (ps_set (i := 10) sc.nd rfl (Or.inl rfl) (pe_tup (pa_cons (pe_ix (ixT (K := K) rfl) (pe_ix (ixL (K := K) rfl) (pe_ix (ixL (K := K) rfl) (pv 0) (pv 7) (fun _ _ => rfl)) (pv 9) (fun _ _ => rfl)) pe_int (fun _ _ => rfl)) (pa_cons (pe_ix (ixT (K := K) rfl) (pe_ix (ixL (K := K) rfl) (pe_ix (ixL (K := K) rfl) (pv 1) (pv 8) (fun _ _ => rfl)) (pv 9) (fun _ _ => rfl)) pe_int (fun _ _ => rfl)) pa_nil))))
      (pss_one (ps_if (pt_cmp (pc_dnotin (hu_n hr 1) (pv 10) (pv 4)))
      (pss_cons (ps_dput (hu_n hr 1) (pv 4) (pv 10) (pe_op op_cat (pe_dget (hu_n hr 1) (pv 4) (pe_ix (ixL (K := K) rfl) (pv 5) (pv 6) (fun _ _ => rfl)) (fun _ _ => rfl)) (pe_lst (pa_cons (pv 9) pa_nil))) rfl)
      (pss_one (ps_expr (pe_bm PySem.F.plainAttrs_list PySem.F.slot_list_append PySem.F.type_list_append mt_append (pv 5) (pa_cons (pv 10) pa_nil)))))
      pss_nil)))))
      (pss_one (ps_set (i := 6) sc.nd rfl (Or.inl rfl) (pe_op op_add (pv 6) pe_int))))))
      (pss_one (ps_ret pe_non)))))), ?_⟩
  refine fun d hd => ?_
  refine ⟨_, rfl, _, rfl, (by show 2 ≤ sizeLine; decide), fun b hb => ⟨Nat.zero_le _, fun la hla => ?_⟩⟩
  have hbd : b ≠ d := fun z => by rw [z, upd_same] at hb; cases hb
  have s1 := (same_upd hd (.dT [])).trans ((same_upd hb (.tup [V.int (one : Int), V.int (other : Int)])).trans (same_upd hla (.lst [])))
  have dA : upd (upd (upd H d (.dT [])) b (.tup [V.int (one : Int), V.int (other : Int)])) la (.lst []) d = some (.dT []) := ((same_upd hb (.tup [V.int (one : Int), V.int (other : Int)])).trans (same_upd hla (.lst []))) _ _ upd_same
  have bA : upd (upd (upd H d (.dT [])) b (.tup [V.int (one : Int), V.int (other : Int)])) la (.lst []) b = some (.tup [V.int (one : Int), V.int (other : Int)]) := (same_upd hla (.lst [])) _ _ upd_same
  have lA : upd (upd (upd H d (.dT [])) b (.tup [V.int (one : Int), V.int (other : Int)])) la (.lst []) la = some (.lst []) := upd_same
  generalize upd (upd (upd H d (.dT [])) b (.tup [V.int (one : Int), V.int (other : Int)])) la (.lst []) = HA at s1 dA bA lA ⊢
  refine ⟨dA, kPr (one, other), b, rfl, bA, ?_⟩
  have kB : ∀ c, c ≠ d → upd HA d (.dT [(kPr (one, other), V.ref la)]) c = HA c := fun c hc => upd_ne hc
  have dB : upd HA d (.dT [(kPr (one, other), V.ref la)]) d = some (.dT [(kPr (one, other), V.ref la)]) := upd_same
  generalize upd HA d (.dT [(kPr (one, other), V.ref la)]) = HB at kB dB ⊢
  refine ⟨_, rfl, _, rfl, (by show 2 ≤ sizeLine; decide), fun b2 hb2 => ⟨(by show 1 ≤ sizeLine; decide), fun wa hwa => ?_⟩⟩
  have s3 := (same_upd hb2 (.tup [V.int (one : Int), V.int (other : Int)])).trans (same_upd hwa (.lst [V.ref b2]))
  have b2C : upd (upd HB b2 (.tup [V.int (one : Int), V.int (other : Int)])) wa (.lst [V.ref b2]) b2 = some (.tup [V.int (one : Int), V.int (other : Int)]) := (same_upd hwa (.lst [V.ref b2])) _ _ upd_same
  have waC : upd (upd HB b2 (.tup [V.int (one : Int), V.int (other : Int)])) wa (.lst [V.ref b2]) wa = some (.lst [V.ref b2]) := upd_same
  have hwB : HB wa = none := (same_upd hb2 (.tup [V.int (one : Int), V.int (other : Int)])).free hwa
  generalize upd (upd HB b2 (.tup [V.int (one : Int), V.int (other : Int)])) wa (.lst [V.ref b2]) = HC at s3 b2C waC ⊢
  have dwa : d ≠ wa := fun z => by rw [← z, dB] at hwB; cases hwB
  have lad : la ≠ d := fun z => by rw [z, dA] at lA; cases lA
  have i0 : FsW R1 R2 one other H a a' d wa ((two R1 R2).length * (two R1 R2).length + 1) [some (.ref a), some (.ref a'), some (.int (one : Int)), some (.int (other : Int)), some (.ref d), some (.ref wa), some (.int ((0 : Nat) : Int)), none, none, none, none] HC := by
    have up : ∀ c o, c ≠ d → HA c = some o → c ≠ wa ∧ HC c = some o := fun c o hc e => by
      rw [← kB c hc] at e
      exact ⟨(fun z => by rw [z, hwB] at e; cases e), s3 _ _ e⟩
    have upla := up la _ lad lA
    have b2d : b2 ≠ d := fun z => by rw [z, s3 _ _ dB] at b2C; cases b2C
    have b2w : b2 ≠ wa := fun z => by rw [z, waC] at b2C; cases b2C
    refine ⟨[((one, R1.length + other), [])], 0, _, _, none, none, none, none, rfl, ⟨same_mn fun c o e => ?_, dwa, s3 _ _ dB, waC, .cons ⟨by show kPr (one, other) = kPr (one, R1.length + other - R1.length); rw [Nat.add_sub_cancel_left], la, rfl, by rw [mn_at lad upla.1]; exact upla.2⟩ .nil, .cons ⟨b2, rfl, by rw [mn_at b2d b2w]; show HC b2 = some (.tup [V.int (one : Int), V.int ((R1.length + other - R1.length : Nat) : Int)]); rw [Nat.add_sub_cancel_left]; exact b2C⟩ .nil, by simp [shL], fun x hx => ?_, fun i x hx => ?_⟩, fun x hx => by rw [List.mem_singleton.mp hx]; exact ⟨h1, Nat.le_add_right _ _, by show R1.length + other < _; omega⟩, Bfs.start, rfl⟩
    · have hcd : c ≠ d := fun z => by rw [z, hd] at e; cases e
      have := up c o hcd (s1 _ _ e)
      exact ⟨hcd, this.1, this.2⟩
    · have : x = (one, other) := by simpa [shL] using hx
      rw [this, tl]; exact ⟨by show one < _; omega, by show other < _; omega⟩
    · cases i with
      | zero => cases hx; exact Nat.le_refl _
      | succ i => cases hx
  refine ⟨FsW R1 R2 one other H a a' d wa, ⟨_, i0⟩, ?_⟩
  rintro m σ Hx ⟨L, k, kvs, ws, y1, y2, y3, y4, rfl, B, inl, bf, rfl⟩
  have wl : ws.length = L.length := by have := pr_len B.pr; rw [List.length_map, shL_len] at this; exact this.symm
  have hf := B.few
  rw [shL_len] at hf
  have r160 := g.few
  have r2 : (two R1 R2).length * (two R1 R2).length ≤ 160 * 160 := Nat.mul_le_mul r160 r160
  refine ⟨_, rfl, _, rfl, wa, _, rfl, .inl (SqL.of B.hw), _, _, rfl, rfl, _, rfl, ?_⟩
  refine ite2 (fun c => ?_) (fun c => ?_)
  · have c : ((k : Nat) : Int) < ((ws.length : Nat) : Int) := of_decide_eq_true c
    have kl : k < L.length := by omega
    obtain ⟨p1, y1', row, hx, xin1, xin2⟩ : ∃ p1 y1' row, L[k]? = some ((p1, R1.length + y1'), row) ∧ p1 < R1.length ∧ y1' < R2.length := by
      have hi := inl _ (List.getElem_mem kl)
      refine ⟨L[k].1.1, L[k].1.2 - R1.length, L[k].2, ?_, hi.1, by omega⟩
      rw [List.getElem?_eq_getElem kl, show R1.length + (L[k].1.2 - R1.length) = L[k].1.2 by omega]
    have hxs := shL_at hx
    refine ⟨fun σ' H' => ∃ m', m' < (two R1 R2).length * (two R1 R2).length + 1 - k ∧ FsW R1 R2 one other H a a' d wa m' σ' H', fun σ' H' h => h, ?_⟩
    obtain ⟨u, hub, b0, rfl, hb0⟩ := L2.Paired.at B.pr (show ((shL R1.length L).map (·.1))[k]? = some (p1, y1') by rw [List.getElem?_map, hxs]; rfl)
    have sx : Same H Hx := B.s.trans mn_same
    obtain ⟨u1, hu1, hr1⟩ := hat p1 _ (List.getElem?_eq_getElem xin1)
    obtain ⟨u2, hu2, hr2⟩ := hat' y1' _ (List.getElem?_eq_getElem xin2)
    obtain ⟨a1, us1, rfl, ha1, ul1, at1⟩ := mr_parts hr1
    obtain ⟨a2, us2, rfl, ha2, ul2, at2⟩ := mr_parts hr2
    have len1 : R1[p1].length = (mch R1).asks := by have := (tw.g1.go _ (List.getElem_mem xin1)).len; show _ = (R1.headD []).length; omega
    have len2 : R2[y1'].length = (mch R2).asks := by have := (tw.g2.go _ (List.getElem_mem xin2)).len; show _ = (R2.headD []).length; omega
    have a20 := g.a20
    refine ⟨_, rfl, _, rfl, wa, _, _, _, rfl, rfl, SqL.of B.hw, atI_nat hub, b0, _, rfl, SqT.of (mn_same _ _ hb0), rfl, _, _, rfl, _, _, rfl, rfl, ?_⟩
    refine ⟨_, rfl, _, rfl, a, _, _, _, rfl, rfl, SqL.of (sx _ _ ha), atI_nat hu1, a1, _, rfl, .inl (SqL.of (sx _ _ ha1)), ((us1.length : Nat) : Int), rfl, by omega, by omega, for_range (lo := 0) (n := ((us1.length : Nat) : Int).toNat) (fun i σ H2 => ∃ (L : List Pr) (kvs : List (List Key × V)) (ws : List V) (y3 y4 : Option V), σ = [some (.ref a), some (.ref a'), some (.int (one : Int)), some (.int (other : Int)), some (.ref d), some (.ref wa), some (.int (k : Int)), some (.int (p1 : Int)), some (.int (y1' : Int)), y3, y4] ∧ BfH (two R1 R2) one other H H2 d wa (shL R1.length L) kvs ws ∧ InL R1.length R2.length L ∧ Bfs (mch (two R1 R2)) one (R1.length + other) L k i ∧ L[k]? = some ((p1, R1.length + y1'), row)) ⟨L, kvs, ws, _, _, rfl, B, inl, bf, hx⟩ (fun i σ H2 hi h => ?_) (fun σ H2 h => ?_)⟩
    · clear B bf hx hub hb0 wl hf c kl sx hxs inl
      obtain ⟨L, kvs, ws, y3, y4, rfl, B, inl, bf, hx⟩ := h
      have hf := B.few
      rw [shL_len] at hf
      have hxs := shL_at hx
      have wl : ws.length = L.length := by have := pr_len B.pr; rw [List.length_map, shL_len] at this; exact this.symm
      have kvl : kvs.length = L.length := by rw [← pr_len B.wy, shL_len]
      have sx : Same H H2 := B.s.trans mn_same
      have ia : i < (mch R1).asks := by omega
      have ia' : i < (mch (two R1 R2)).asks := by omega
      obtain ⟨eL1, eL2⟩ := tw.l (a := i) xin1
      obtain ⟨eR1, eR2⟩ := tw.r xin2 ia
      obtain ⟨r1, x1, q11, q12, q13, q14, q15, _⟩ := tw.g1.at xin1 ia
      obtain ⟨r2, x2, q21, q22, q23, q24, q25, _⟩ := tw.g2.at xin2 (a := i) (by omega)
      rw [List.getElem?_eq_getElem xin1] at q11
      injection q11 with q11
      rw [List.getElem?_eq_getElem xin2] at q21
      injection q21 with q21
      subst q11 q21
      obtain ⟨t1, m1, n1⟩ := at1 _ _ q12
      obtain ⟨t2, m2, n2⟩ := at2 _ _ q22
      obtain ⟨u, hub, b0, rfl, hb0⟩ := L2.Paired.at B.pr (show ((shL R1.length L).map (·.1))[k]? = some (p1, y1') by rw [List.getElem?_map, hxs]; rfl)
      replace hb0 := mn_same _ _ hb0
      obtain ⟨la, hval, hla⟩ := B.wy.val B.nd hxs
      have lnw : la ≠ wa := (mn_ne hla).2
      replace hla := mn_same _ _ hla
      have xl := B.sh _ _ hxs
      simp only at hval hla xl
      have kl := (List.getElem?_eq_some_iff.mp hx).1
      refine ⟨_, rfl, _, rfl, a, _, _, _, rfl, rfl, SqL.of (sx _ _ ha), atI_nat hu1, _, rfl, a1, _, _, _, rfl, rfl, SqL.of (sx _ _ ha1), atI_z m1, t1, _, _, _, rfl, rfl, SqT.of (sx _ _ n1), atI_nat (j := 0) rfl, ?_⟩
      refine ⟨_, rfl, _, rfl, a', _, _, _, rfl, rfl, SqL.of (sx _ _ ha'), atI_nat hu2, _, rfl, a2, _, _, _, rfl, rfl, SqL.of (sx _ _ ha2), atI_z m2, t2, _, _, _, rfl, rfl, SqT.of (sx _ _ n2), atI_nat (j := 0) rfl, rfl, _, rfl, ?_⟩
      refine ite2 (fun c => ?_) (fun c => ?_)
      · have hu : (mch (two R1 R2)).ans p1 i ≠ (mch (two R1 R2)).ans (R1.length + y1') i := fun z => by
          rw [eL1, eR1] at z
          have c : (!decide (V.int x1.1 = V.int x2.1)) = true := c
          rw [q13, q23, z, decide_eq_true rfl] at c; cases c
        have bst := bf.best hx ia' hu
        refine ⟨_, rfl, _, rfl, _, rfl, wa, _, _, _, rfl, rfl, SqL.of B.hw, atI_nat hub, d, .ref la, rfl, by rw [← hval]; exact DGet.t (k := kPr (p1, y1')) B.hd hb0, _, rfl, (by show 1 ≤ sizeLine; decide), fun l1 hl1 => ?_⟩
        refine ⟨la, l1, _, _, rfl, rfl, same_upd hl1 _ _ _ hla, upd_same, small (m := 100000) (by rw [tN_len, List.length_singleton]; omega), fun l2 hl2 => ?_⟩
        rw [tN_snoc]
        exact q2 _ bst l2 _ (sx.trans ((same_upd hl1 _).trans (same_upd hl2 _))) upd_same (by show (row ++ [i]).length ≤ 160000; rw [List.length_append, List.length_singleton]; omega)
      · have he : (mch (two R1 R2)).ans p1 i = (mch (two R1 R2)).ans (R1.length + y1') i := Classical.byContradiction fun z => c (by
          rw [eL1, eR1] at z
          show (!decide (V.int x1.1 = V.int x2.1)) = true
          rw [q13, q23, decide_eq_false (fun y => z (by injection y))]; rfl)
        refine ⟨_, rfl, _, rfl, a, _, _, _, rfl, rfl, SqL.of (sx _ _ ha), atI_nat hu1, _, rfl, a1, _, _, _, rfl, rfl, SqL.of (sx _ _ ha1), atI_z m1, t1, _, _, _, rfl, rfl, SqT.of (sx _ _ n1), atI_nat (j := 1) rfl, ?_⟩
        refine ⟨_, rfl, _, rfl, a', _, _, _, rfl, rfl, SqL.of (sx _ _ ha'), atI_nat hu2, _, rfl, a2, _, _, _, rfl, rfl, SqL.of (sx _ _ ha2), atI_z m2, t2, _, _, _, rfl, rfl, SqT.of (sx _ _ n2), atI_nat (j := 1) rfl, (by show 2 ≤ sizeLine; decide), fun bp hbp => ?_⟩
        rw [q14, q24]
        have s3 := same_upd hbp (.tup [V.int (((mch R1).nxt p1 i : Nat) : Int), V.int (((mch R2).nxt y1' i : Nat) : Int)])
        have hb3 : upd H2 bp (.tup [V.int (((mch R1).nxt p1 i : Nat) : Int), V.int (((mch R2).nxt y1' i : Nat) : Int)]) bp = some (.tup [V.int (((mch R1).nxt p1 i : Nat) : Int), V.int (((mch R2).nxt y1' i : Nat) : Int)]) := upd_same
        generalize upd H2 bp (.tup [V.int (((mch R1).nxt p1 i : Nat) : Int), V.int (((mch R2).nxt y1' i : Nat) : Int)]) = H3 at s3 hb3 ⊢
        have B3 := B.go s3
        refine ⟨_, rfl, _, rfl, d, _, rfl, DGet.t (k := kPr ((mch R1).nxt p1 i, (mch R2).nxt y1' i)) B3.hd hb3, _, rfl, ?_⟩
        rw [B3.wy.has]
        refine ite2 (fun c1 => ?_) (fun c1 => ?_)
        · have hn : ((mch R1).nxt p1 i, (mch R2).nxt y1' i) ∉ (shL R1.length L).map (·.1) := by simpa using c1
          refine ⟨_, rfl, _, rfl, _, rfl, wa, _, _, _, rfl, rfl, SqL.of B3.hw, atI_nat hub, d, .ref la, rfl, by rw [← hval]; exact DGet.t (k := kPr (p1, y1')) B3.hd (s3 _ _ hb0), _, rfl, (by show 1 ≤ sizeLine; decide), fun l1 hl1 => ?_⟩
          refine ⟨la, l1, _, _, rfl, rfl, same_upd hl1 _ _ _ (s3 _ _ hla), upd_same, small (m := 100000) (by rw [tN_len, List.length_singleton]; omega), fun l2 hl2 => ?_⟩
          rw [tN_snoc]
          have s5 := (same_upd hl1 (.lst [V.int (0 + (i : Nat))])).trans (same_upd hl2 (.lst (tN (row ++ [i]))))
          have hl5 : upd (upd H3 l1 (.lst [V.int (0 + (i : Nat))])) l2 (.lst (tN (row ++ [i]))) l2 = some (.lst (tN (row ++ [i]))) := upd_same
          have lw : l2 ≠ wa := fun z => by
            have := (same_upd hl1 (.lst [V.int (0 + (i : Nat))])) _ _ B3.hw
            rw [← z, hl2] at this; cases this
          generalize upd (upd H3 l1 (.lst [V.int (0 + (i : Nat))])) l2 (.lst (tN (row ++ [i]))) = H5 at s5 hl5 ⊢
          have B5 := B3.go s5
          refine ⟨_, rfl, _, rfl, d, _, rfl, DPut.t (k := kPr ((mch R1).nxt p1 i, (mch R2).nxt y1' i)) B5.hd (s5 _ _ hb3) (smlt (m := 100000) (by omega)), ?_⟩
          rw [B5.wy.put hn]
          have hw6 : upd H5 d (.dT (kvs ++ [(kPr ((mch R1).nxt p1 i, (mch R2).nxt y1' i), V.ref l2)])) wa = some (.lst ws) := by rw [upd_ne (Ne.symm B5.dw)]; exact B5.hw
          refine ⟨_, rfl, .inl ⟨rfl, _, SqL.of hw6⟩, _, rfl, wa, ws, _, rfl, rfl, hw6, smlt (m := 100000) (by omega), ?_⟩
          have psh := bf.push hx ia' he
          simp only [eL2, eR2] at psh
          refine ⟨L ++ [(((mch R1).nxt p1 i, R1.length + (mch R2).nxt y1' i), row ++ [i])], _, _, _, _, rfl, by rw [shL_snoc]; exact B5.grow hn ⟨by rw [tl]; show (mch R1).nxt p1 i < _; omega, by rw [tl]; show (mch R2).nxt y1' i < _; omega⟩ (s5 _ _ hb3) hl5 lw (by rw [List.length_append, List.length_singleton, shL_len]; omega), fun x hx => ?_, psh, by rw [List.getElem?_append_left kl]; exact hx⟩
          rcases List.mem_append.mp hx with z | z
          · exact inl x z
          · rw [List.mem_singleton.mp z]; exact ⟨q15, Nat.le_add_right _ _, by show R1.length + (mch R2).nxt y1' i < _; omega⟩
        · have hn : ((mch R1).nxt p1 i, (mch R2).nxt y1' i) ∈ (shL R1.length L).map (·.1) := by simpa using c1
          obtain ⟨y, hy, ey⟩ := List.mem_map.mp hn
          obtain ⟨y0, hy0, rfl⟩ := List.mem_map.mp hy
          obtain ⟨j, hj⟩ := List.getElem?_of_mem hy0
          have iy := inl _ hy0
          have ey1 : y0.1.1 = (mch R1).nxt p1 i := congrArg Prod.fst ey
          have ey2 : y0.1.2 - R1.length = (mch R2).nxt y1' i := congrArg Prod.snd ey
          exact ⟨L, kvs, ws, _, _, rfl, B3, inl, bf.hit hx he hj (Prod.ext (by show y0.1.1 = _; rw [ey1]; exact eL2.symm) (by show y0.1.2 = _; rw [eR2]; omega)), hx⟩
    · obtain ⟨L, kvs, ws, y3, y4, rfl, B, inl, bf, hx⟩ := h
      rw [show (((us1.length : Nat) : Int)).toNat = (mch (two R1 R2)).asks by omega] at bf
      have kl := (List.getElem?_eq_some_iff.mp hx).1
      have hf := B.few
      rw [shL_len] at hf
      exact ⟨_, rfl, _, _, rfl, rfl, (two R1 R2).length * (two R1 R2).length + 1 - (k + 1), by omega, L, k + 1, kvs, ws, _, _, _, _, rfl, B, inl, bf.turn, rfl⟩
  · have c : ¬ ((k : Nat) : Int) < ((ws.length : Nat) : Int) := fun z => c (decide_eq_true z)
    exact q1 (bf.none (by omega)) _ (B.s.trans mn_same)
def DueV (H : Hp) : Option (List Nat) → V → Prop
  | none, u => u = .non
  | some s, u => ∃ l, u = .ref l ∧ H l = some (.lst (tN s))
def AnsR (R : List MRow) (p q : Nat) : Option (List Nat) → Prop
  | none => ∀ s, ¬ tlA (mch R) s p q
  | some s => Bst (mch R) s p q
theorem DueV.up {H H' : Hp} (h : Same H H') : ∀ {so : Option (List Nat)} {u : V}, DueV H so u → DueV H' so u
  | none, _, e => e
  | some _, _, ⟨l, e, hl⟩ => ⟨l, e, h _ _ hl⟩
theorem AnsR.one {R : List MRow} {p q : Nat} : ∀ {a b : Option (List Nat)}, AnsR R p q a → AnsR R p q b → a = b
  | none, none, _, _ => rfl
  | none, some s, h1, h2 => absurd h2.1 (h1 s)
  | some s, none, h1, h2 => absurd h1.1 (h2 s)
  | some s, some t, h1, h2 => by rw [Bst.one h1 h2]
def NewV (H : Hp) : V → Prop
  | .ref l => H l = none
  | _ => True
theorem apq_of {R : List MRow} {p q : Nat} {H : Hp} {Q : VK} (h : ∀ so u H', AnsR R p q so → Same H H' → DueV H' so u → NewV H u → (∀ s, so = some s → s.length ≤ R.length) → Q u H') : ApQ R p q H Q :=
  ⟨fun hn H' s => h none .non H' hn s rfl trivial (fun _ z => by cases z), fun s hs l H' sm hl0 hl hn => h (some s) (.ref l) H' hs sm ⟨l, rfl, hl⟩ hl0 (fun _ z => by cases z; exact hn)⟩
theorem frq_of {R : List MRow} {p q : Nat} {H : Hp} {Q : VK} (h : ∀ so u H', AnsR R p q so → Same H H' → DueV H' so u → Q u H') : FrQ R p q H Q :=
  ⟨fun hn H' s => h none .non H' hn s rfl, fun s hs l H' sm hl _ => h (some s) (.ref l) H' hs sm ⟨l, rfl, hl⟩⟩
def spDue : Sp := fun vs H Q _ => ∃ (u d : V) (so : Option (List Nat)), vs = [u, d] ∧ DueV H so u ∧ DueV H so d ∧ ∀ H', Same H H' → Q (.bl true) H'
theorem ok_due (F : DefAt K mg "_law_is_due" s_law_is_due ["_law_found", "_law_due"]) (T : Txt mg) (D_law_whole : Dn P w K mg base "_law_whole" 1 ["_law_found"] spWhole) : Dn P w K mg base "_law_is_due" 2 ["_law_found", "_law_due"] spDue := by
  have sc := sc_law_is_due
  refine F.ok sc (fun vs H Q E h => ?_) (fun f cdv A outer s H vs Q E hr h => ?_)
  · obtain ⟨_, _, _, rfl, _⟩ := h; rfl
  obtain ⟨u, d, so, rfl, hu, hd, q⟩ := h
  refine ⟨_, (pss_cons (ps_if (pt_cmp (pc_isN (pv 1)))
      (pss_one (ps_ret (pe_cmp (pc_isN (pv 0)))))
      pss_nil)
      (pss_cons (ps_if (PW.pt (pw_or (pt_not (pt_val (pe_callB (clIsi (K := K) rfl (T := "list")) rfl T.b_isinstance PyProof.Rows.boot_isinstance (pa_cons (pv 0) (pa_cons (pe_bltn (v := .ty "list") rfl T.b_list PyProof.Rows.boot_list rfl) pa_nil))))) (pw_or1 (pt_cmpR op_ne (pe_callB (clLen (K := K) rfl) rfl T.b_len PySem.boot_len (pa_cons (pv 0) pa_nil)) (pe_callB (clLen (K := K) rfl) rfl T.b_len PySem.boot_len (pa_cons (pv 1) pa_nil)) (nomark _)))))
      (pss_one (ps_ret pe_bl))
      pss_nil)
      (pss_cons (ps_for PassesOwn.never rfl (pi_zip (K := K) rfl rfl T.b_zip (pa_cons (pv 0) (pa_cons (pv 1) pa_nil))) (pg_tup rfl (pgs_cons (pg_name (i := 2) sc.nd rfl (Or.inl rfl)) (pgs_cons (pg_name (i := 3) sc.nd rfl (Or.inl rfl)) pgs_nil)))
      (pss_one (ps_if (PW.pt (pw_or (pt_not (pt_val (pe_dn D_law_whole hr (pa_cons (pv 2) pa_nil)))) (pw_or1 (pt_cmpR op_ne (pv 2) (pv 3) (nomark _)))))
      (pss_one (ps_ret pe_bl))
      pss_nil)))
      (pss_one (ps_ret pe_bl))))), ?_⟩
  cases so with
  | none =>
    obtain rfl := hu
    obtain rfl := hd
    refine ⟨_, rfl, _, rfl, iteT ?_⟩
    exact ⟨_, rfl, q _ (Same.refl _)⟩
  | some t =>
    obtain ⟨l1, rfl, h1⟩ := hu
    obtain ⟨l2, rfl, h2⟩ := hd
    refine ⟨_, rfl, _, rfl, iteF ?_⟩
    refine ⟨_, rfl, _, "list", _, rfl, .inl ⟨rfl, .inl ⟨_, h1⟩⟩, isi_same _, _, rfl, iteF ?_⟩
    refine ⟨_, rfl, l1, _, rfl, .inl (SqL.of h1), _, rfl, l2, _, rfl, .inl (SqL.of h2), rfl, _, rfl, ?_⟩
    refine ite2 (fun c => ?_) (fun _ => ?_)
    · exfalso
      simp at c
    refine ⟨_, rfl, _, rfl, l1, l2, rfl, ⟨_, SqL.of h1⟩, ⟨_, SqL.of h2⟩, for_zip (K := K) (a := l1) (b := l2) (xs := tN t) (ys := tN t) rfl (fun i σ H2 => Same H H2 ∧ ∃ y1 y2 : Option V, σ = [some (.ref l1), some (.ref l2), y1, y2]) ⟨Same.refl _, _, _, rfl⟩ (fun i σ H2 _ h => ⟨SqL.of (h.1 _ _ h1), SqL.of (h.1 _ _ h2)⟩) (fun i x y σ H2 tt hx hy h htt => ?_) (fun σ H2 h => ?_)⟩
    · obtain ⟨s2, y1, y2, rfl⟩ := h
      rw [hx] at hy
      injection hy with hy
      subst hy
      unfold tN at hx
      rw [List.getElem?_map] at hx
      obtain ⟨z, hz, rfl⟩ := Option.map_eq_some_iff.mp hx
      refine ⟨tt, _, rfl, SqT.of upd_same, rfl, _, _, rfl, _, _, rfl, rfl, ?_⟩
      refine ⟨_, rfl, _, rfl, _, rfl, iteF ?_⟩
      refine ⟨_, rfl, _, rfl, rfl, _, rfl, ?_⟩
      refine ite2 (fun c => ?_) (fun _ => ?_)
      · exfalso
        simp at c
      exact ⟨s2.trans (same_upd htt _), _, _, rfl⟩
    · exact q _ h.1
def spDoub (K : PySem.W.Frag) : Sp := fun vs H Q _ => ∃ (a : Addr) (ns : List Int) (v : V) (R : List MRow) (k n m by_ : Int), vs = [.ref a, v, .int n, .int by_] ∧ SqL K H a (ns.map V.int) ∧ ns.length ≤ 63 ∧ rMs H R v ∧ MI k m R ∧ k ≤ n ∧ n ≤ 60 ∧ 0 ≤ by_ ∧ by_ ≤ 100 ∧ ∀ (v : V) (R : List MRow) (H' : Hp), Same H H' → rMs H' R v → MI n m R → Q v H'
theorem room_ok {n k x c : Int} (hk : 1 ≤ k) (hx : 0 ≤ x ∧ x < k) (hn : k ≤ n) : 0 < (n - x + k - 1) / k ∧ 0 ≤ x + k * (c % ((n - x + k - 1) / k)) ∧ x + k * (c % ((n - x + k - 1) / k)) < n := by
  have h1 : 1 ≤ (n - x + k - 1) / k := Int.le_ediv_of_mul_le (by omega) (by omega)
  have h2 : (n - x + k - 1) / k * k ≤ n - x + k - 1 := Int.ediv_mul_le _ (by omega)
  generalize (n - x + k - 1) / k = r at h1 h2
  have e1 := Int.emod_nonneg c (show r ≠ 0 by omega)
  have e2 := Int.emod_lt_of_pos c (show 0 < r by omega)
  generalize c % r = y at e1 e2
  have h3 : k * y ≤ k * (r - 1) := Int.mul_le_mul_of_nonneg_left (by omega) (by omega)
  have h4 : k * (r - 1) = r * k - k := by rw [Int.mul_sub, Int.mul_one, Int.mul_comm]
  have h5 := Int.mul_nonneg (show 0 ≤ k by omega) e1
  refine ⟨by omega, by omega, by omega⟩
theorem ok_doub (F : DefAt K mg "_law_doubled" s_law_doubled ["_law_script", "_law_base", "_law_states", "_law_by"]) (T : Txt mg) (D_law_at : Dn P w K mg base "_law_at" 1 ["_law_script", "_law_k"] (spAt K)) : Dn P w K mg base "_law_doubled" 2 ["_law_script", "_law_base", "_law_states", "_law_by"] (spDoub K) := by
  have sc := sc_law_doubled
  refine F.ok sc (fun vs H Q E h => ?_) (fun f cdv A outer s H vs Q E hr h => ?_)
  · obtain ⟨_, _, _, _, _, _, _, _, rfl, _⟩ := h; rfl
  obtain ⟨a, ns, v, R0, k, n, m, by_, rfl, hS, h63, hv, M, kn, n60, by0, by1, q⟩ := h
  obtain ⟨a0, us, rfl, ha0, ul, hat⟩ := ms_parts hv
  have k1 := M.n1
  have kl := M.len
  have m1 := M.m1
  have m3 := M.m3
  have h0 : 0 < R0.length := by omega
  obtain ⟨u0, hu0, r0⟩ := hat 0 _ (List.getElem?_eq_getElem h0)
  obtain ⟨b0, us0, rfl, hb0, ul0, _⟩ := mr_parts r0
  have ml := (M.row _ (List.getElem_mem h0)).1
  refine ⟨_, (pss_cons (ps_set (i := 4) sc.nd rfl (Or.inl rfl) (pe_callB (clLen (K := K) rfl) rfl T.b_len PySem.boot_len (pa_cons (pv 1) pa_nil)))
      (pss_cons (ps_set (i := 5) sc.nd rfl (Or.inl rfl) (pe_lst pa_nil))
      (pss_cons (ps_for PassesOwn.never rfl (pi_range1 rfl T.b_range (pa_cons (pv 2) pa_nil)) (pg_name (i := 6) sc.nd rfl (Or.inl rfl))
      (pss_cons (ps_set (i := 7) sc.nd rfl (Or.inl rfl) (pe_lst pa_nil))
      (pss_cons (ps_for PassesOwn.never rfl (pi_range1 rfl T.b_range (pa_cons (pe_callB (clLen (K := K) rfl) rfl T.b_len PySem.boot_len (pa_cons (pe_ix (ixL (K := K) rfl) (pv 1) pe_int (fun _ _ => rfl)) pa_nil)) pa_nil)) (pg_name (i := 8) sc.nd rfl (Or.inl rfl))
      (pss_cons (ps_asg (pe_ix (ixL (K := K) rfl) (pe_ix (ixL (K := K) rfl) (pv 1) (pe_op op_mod (pv 6) (pv 4)) (fun _ _ => rfl)) (pv 8) (fun _ _ => rfl)) (pg_tup rfl (pgs_cons (pg_name (i := 9) sc.nd rfl (Or.inl rfl)) (pgs_cons (pg_name (i := 10) sc.nd rfl (Or.inl rfl)) pgs_nil))))
      (pss_cons (ps_set (i := 11) sc.nd rfl (Or.inl rfl) (pe_op op_fdiv (pe_op op_sub (pe_op op_add (pe_op op_sub (pv 2) (pv 10)) (pv 4)) pe_int) (pv 4)))
      (pss_one (ps_expr (pe_bm PySem.F.plainAttrs_list PySem.F.slot_list_append PySem.F.type_list_append mt_append (pv 7) (pa_cons (pe_tup (pa_cons (pv 9) (pa_cons (pe_op op_add (pv 10) (pe_op op_mul (pv 4) (pe_op op_mod (pe_op op_fdiv (pe_dn D_law_at hr (pa_cons (pv 0) (pa_cons (pe_op op_add (pe_op op_add (pv 3) (pe_op op_mul pe_int (pv 6))) (pv 8)) pa_nil))) pe_int) (pv 11)))) pa_nil))) pa_nil)))))))
      (pss_one (ps_expr (pe_bm PySem.F.plainAttrs_list PySem.F.slot_list_append PySem.F.type_list_append mt_append (pv 5) (pa_cons (pv 7) pa_nil)))))))
      (pss_one (ps_ret (pv 5)))))), ?_⟩
  refine ⟨_, rfl, a0, _, rfl, .inl (SqL.of ha0), ?_⟩
  refine ⟨Nat.zero_le _, fun g hg => ?_⟩
  refine ⟨_, rfl, n, rfl, by omega, by omega, for_range (lo := 0) (n := n.toNat) (fun i σ H2 => ∃ (R : List MRow) (y1 y2 y3 y4 y5 y6 : Option V), σ = [some (.ref a), some (.ref a0), some (.int n), some (.int by_), some (.int k), some (.ref g), y1, y2, y3, y4, y5, y6] ∧ Bld rMR H H2 g R ∧ R.length = i ∧ ∀ r ∈ R, (r.length : Int) = m ∧ ∀ p ∈ r, 0 ≤ p.2 ∧ p.2 < n)
    ⟨[], _, _, _, _, _, _, by rw [← kl, ← ul]; rfl, Bld.start (Same.refl _) hg, rfl, fun _ z => by cases z⟩ (fun i σ H2 hi h => ?_) (fun σ H2 h => ?_)⟩
  · obtain ⟨R, y1, y2, y3, y4, y5, y6, rfl, b, hl, hk⟩ := h
    refine ⟨Nat.zero_le _, fun gr hgr => ?_⟩
    have s2 := b.s.trans (same_upd hgr (.lst []))
    refine ⟨_, rfl, a0, _, _, _, rfl, rfl, SqL.of (s2 _ _ ha0), atI_nat (j := 0) hu0, b0, _, rfl, .inl (SqL.of (s2 _ _ hb0)), ((us0.length : Nat) : Int), rfl, by omega, by omega, for_range (lo := 0) (n := ((us0.length : Nat) : Int).toNat) (fun j σ H3 => ∃ (r : MRow) (y3 y4 y5 y6 : Option V), σ = [some (.ref a), some (.ref a0), some (.int n), some (.int by_), some (.int k), some (.ref g), some (.int (0 + (i : Nat))), some (.ref gr), y3, y4, y5, y6] ∧ Bld (rT2 rInt rInt) H2 H3 gr r ∧ r.length = j ∧ ∀ p ∈ r, 0 ≤ p.2 ∧ p.2 < n)
      ⟨[], _, _, _, _, rfl, Bld.start (Same.refl _) hgr, rfl, fun _ z => by cases z⟩ (fun j σ H3 hj h => ?_) (fun σ H3 h => ?_)⟩
    · obtain ⟨r, y3, y4, y5, y6, rfl, c, rl, rk⟩ := h
      have sH := b.s.trans c.s
      have e1 := Int.emod_nonneg (0 + (i : Int)) (show k ≠ 0 by omega)
      have e2 := Int.emod_lt_of_pos (0 + (i : Int)) (show 0 < k by omega)
      have il : ((0 + (i : Int)) % k).toNat < R0.length := by omega
      obtain ⟨u, hu, hru⟩ := hat _ _ (List.getElem?_eq_getElem il)
      obtain ⟨br, usr, rfl, hbr, ulr, hatr⟩ := mr_parts hru
      have rm := M.row _ (List.getElem_mem il)
      have jl : j < R0[((0 + (i : Int)) % k).toNat].length := by omega
      obtain ⟨t, ht', ht⟩ := hatr _ _ (List.getElem?_eq_getElem jl)
      have hp := rm.2 _ (List.getElem_mem jl)
      generalize R0[((0 + (i : Int)) % k).toNat][j] = p at ht hp
      refine ⟨_, rfl, _, rfl, _, rfl, _, _, rfl, rfl, (show (0 : Int) < k by omega), a0, _, _, _, rfl, rfl, SqL.of (sH _ _ ha0), at_int e1 hu, _, rfl, br, _, _, _, rfl, rfl, SqL.of (sH _ _ hbr), atI_z ht', t, _, rfl, SqT.of (sH _ _ ht), rfl, _, _, rfl, _, _, rfl, rfl, ?_⟩
      have ro := fun c => room_ok (c := c) k1 hp kn
      have ro1 := (ro 0).1
      have ro2 : (n - p.2 + k - 1) / k ≤ n - p.2 + k - 1 := Int.ediv_le_self _ (by omega)
      refine ⟨_, rfl, _, rfl, _, _, rfl, rfl, _, rfl, _, _, rfl, rfl, _, _, rfl, rfl, _, rfl, _, _, rfl, rfl, ⟨by omega, by omega⟩, ?_⟩
      obtain ⟨gvs, hgv, _⟩ := c.sq
      refine ⟨_, rfl, .inl ⟨rfl, _, SqL.of hgv⟩, _, rfl, _, rfl, _, rfl, _, rfl, _, rfl, _, rfl, _, _, rfl, rfl, .inl ⟨by decide, by decide⟩, _, _, rfl, rfl, _, rfl, _, _, rfl, rfl, a, ns, _, rfl, sH.seq hS, h63, by omega, by omega, fun cell => ?_⟩
      refine ⟨_, _, rfl, rfl, ⟨by decide, by decide⟩, _, rfl, _, _, rfl, rfl, ro1, _, _, rfl, rfl, .inl ⟨by omega, by omega⟩, _, _, rfl, rfl, (by show 2 ≤ sizeLine; decide), fun tt htt => ?_⟩
      obtain ⟨vs4, k1, k2, c4⟩ := c.push (mono_t2 mono_int mono_int) (same_upd htt _) (x := (p.1, p.2 + k * (cell / 5 % ((n - p.2 + k - 1) / k)))) (v := .ref tt) ⟨tt, _, _, rfl, (by rw [newp_at htt]; exact upd_same), rfl, rfl⟩
      refine ⟨gr, vs4, _, rfl, rfl, k1, smlt (m := 1000) (by omega), ?_⟩
      refine ⟨_, _, _, _, _, rfl, c4, by simp [rl], fun x hx => ?_⟩
      rcases List.mem_append.mp hx with h | h
      · exact rk x h
      · rw [List.mem_singleton.mp h]
        exact (ro (cell / 5)).2
    · obtain ⟨r, y3, y4, y5, y6, rfl, c, rl, rk⟩ := h
      obtain ⟨gvs, hgv, _⟩ := b.sq
      obtain ⟨vs4, k1, k2, b4⟩ := b.push mono_mr c.s (c.done (mono_t2 mono_int mono_int))
      refine ⟨_, rfl, .inl ⟨rfl, _, SqL.of k1⟩, _, rfl, g, vs4, _, rfl, rfl, k1, smlt (m := 1000) (by omega), ?_⟩
      refine ⟨_, _, _, _, _, _, _, rfl, b4, by simp [hl], fun p hp => ?_⟩
      rcases List.mem_append.mp hp with h | h
      · exact hk p h
      · rw [List.mem_singleton.mp h]
        exact ⟨by omega, rk⟩
  · obtain ⟨R, y1, y2, y3, y4, y5, y6, rfl, b, hl, hk⟩ := h
    exact ⟨_, rfl, q _ R _ b.s (mono_ms.up (newp_same _ _) (b.done mono_mr)) ⟨by omega, by omega, m1, m3, by omega, hk⟩⟩
theorem rows_set {H : Hp} {R : List MRow} {us : List V} {b : Addr} {ws : List V} {r' : MRow} (h : Paired (rMR H) R us) (hb : H b = some (.lst ws)) {ws' : List V} (hr : Paired (rT2 rInt rInt H) r' ws') : ∃ R', Paired (rMR (upd H b (.lst ws'))) R' us ∧ ∀ r ∈ R', r ∈ R ∨ r = r' := by
  have tu : ∀ c us, H c = some (.tup us) → upd H b (.lst ws') c = some (.tup us) := fun c us e => by
    rw [upd_ne (fun z => by rw [z, hb] at e; cases e)]; exact e
  have pt : ∀ {r : MRow} {vs : List V}, Paired (rT2 rInt rInt H) r vs → Paired (rT2 rInt rInt (upd H b (.lst ws'))) r vs := fun {r vs} p => L2.Paired.imp' (fun x u z => by
    obtain ⟨t, x, y, rfl, ht, e1, e2⟩ := z
    exact ⟨t, x, y, rfl, tu _ _ ht, e1, e2⟩) p
  induction h with
  | nil => exact ⟨[], .nil, fun _ z => by cases z⟩
  | @cons r u R us hu _ ih =>
    obtain ⟨R', p, m⟩ := ih
    obtain ⟨c, vs, rfl, hc, pc⟩ := hu
    by_cases e : c = b
    · subst e
      exact ⟨r' :: R', .cons ⟨c, ws', rfl, upd_same, pt hr⟩ p, fun x hx => by
        rcases List.mem_cons.mp hx with z | z
        · exact .inr z
        · rcases m x z with y | y
          · exact .inl (List.mem_cons_of_mem _ y)
          · exact .inr y⟩
    · exact ⟨r :: R', .cons ⟨c, vs, rfl, by rw [upd_ne e]; exact hc, pt pc⟩ p, fun x hx => by
        rcases List.mem_cons.mp hx with z | z
        · exact .inl (by rw [z]; exact List.mem_cons_self)
        · rcases m x z with y | y
          · exact .inl (List.mem_cons_of_mem _ y)
          · exact .inr y⟩
theorem ixN_i {n : Nat} {z : Int} (h0 : 0 ≤ z) (h : z.toNat < n) : ixN n z = some z.toNat := by
  unfold ixN; rw [if_pos h0, if_pos (by omega)]
def Chg (k m : Int) (H : Hp) (l : Addr) (us : List V) (H' : Hp) : Prop := ∃ R : List MRow, Same H H' ∧ H' l = some (.lst us) ∧ Paired (rMR H') R us ∧ MI k m R
theorem chg_put {k m : Int} {H H' : Hp} {l b tn : Addr} {us vs : List V} {r : MRow} {j : Nat} {x : Int × Int} (C : Chg k m H l us H') (h0 : H b = none) (bl : b ≠ l) (hb : H' b = some (.lst vs)) (pr : Paired (rT2 rInt rInt H') r vs) (rl : (r.length : Int) = m) (rg : ∀ p ∈ r, 0 ≤ p.2 ∧ p.2 < k) (htn : H' tn = none) (hx : 0 ≤ x.2 ∧ x.2 < k) :
    Chg k m H l us (upd (upd H' tn (.tup [V.int x.1, V.int x.2])) b (.lst (vs.set j (.ref tn)))) := by
  obtain ⟨R, s, hl, p, M⟩ := C
  have s1 := same_upd htn (.tup [V.int x.1, V.int x.2])
  obtain ⟨R', p', m'⟩ := rows_set (ws' := vs.set j (.ref tn)) (r' := r.set j x) (paired_mono mono_mr s1 p) (s1 _ _ hb) (pr_set ⟨tn, _, _, rfl, upd_same, rfl, rfl⟩ j (paired_mono (mono_t2 mono_int mono_int) s1 pr))
  have lR : R'.length = R.length := by have := pr_len p'; have := pr_len p; omega
  refine ⟨R', (s.trans s1).put h0 _, by rw [upd_ne (Ne.symm bl)]; exact s1 _ _ hl, p', M.n1, M.n6, M.m1, M.m3, by rw [lR]; exact M.len, fun r0 hr0 => ?_⟩
  rcases m' r0 hr0 with z | rfl
  · exact M.row r0 z
  · refine ⟨by rw [List.length_set]; exact rl, fun q hq => ?_⟩
    rcases List.mem_or_eq_of_mem_set hq with z | z
    · exact rg q z
    · rw [z]; exact hx
def spChg (K : PySem.W.Frag) : Sp := fun vs H Q _ => ∃ (a : Addr) (ns : List Int) (v : V) (R : List MRow) (k m : Int), vs = [.ref a, v] ∧ SqL K H a (ns.map V.int) ∧ ns.length ≤ 63 ∧ rMs H R v ∧ MI k m R ∧ ∀ (v : V) (R : List MRow) (H' : Hp), Same H H' → rMs H' R v → MI k m R → Q v H'
theorem ok_chg (F : DefAt K mg "_law_changed" s_law_changed ["_law_script", "_law_base"]) (T : Txt mg) (D_law_at : Dn P w K mg base "_law_at" 1 ["_law_script", "_law_k"] (spAt K)) : Dn P w K mg base "_law_changed" 2 ["_law_script", "_law_base"] (spChg K) := by
  have sc := sc_law_changed
  refine F.ok sc (fun vs H Q E h => ?_) (fun f cdv A outer s H vs Q E hr h => ?_)
  · obtain ⟨_, _, _, _, _, _, rfl, _⟩ := h; rfl
  obtain ⟨sa, ns, v, R, k, m, rfl, hS, h63, hv, M, q⟩ := h
  obtain ⟨a, us, rfl, ha, ul, hat⟩ := ms_parts hv
  have n1 := M.n1
  have n6 := M.n6
  have rl := M.len
  have m1 := M.m1
  have m3 := M.m3
  refine ⟨_, (pss_cons (ps_lc (i := 2) (defScope s_law_changed) ["_law_script", "_law_base", "_law_rows", "_law_place", "_law_ask", "_law_answer", "_law_after"] ["_law_row"] 1 [] sc.nd rfl rfl (pi_list (pv 1)) (fun _ _ _ _ _ _ => (ptg_name (show List.Nodup (["_law_row"] : List Str) by decide +kernel) rfl rfl)) (fun _ _ _ _ _ _ => pts_nil) (fun _ _ _ _ _ _ => (pe_callTy (clList (K := K) rfl) rfl T.b_list PyProof.Rows.boot_list (pa_cons (pv 0) pa_nil))))
      (pss_cons (ps_set (i := 3) sc.nd rfl (Or.inl rfl) (pe_op op_mod (pe_dn D_law_at hr (pa_cons (pv 0) (pa_cons pe_int pa_nil))) (pe_callB (clLen (K := K) rfl) rfl T.b_len PySem.boot_len (pa_cons (pv 2) pa_nil))))
      (pss_cons (ps_set (i := 4) sc.nd rfl (Or.inl rfl) (pe_op op_mod (pe_dn D_law_at hr (pa_cons (pv 0) (pa_cons pe_int pa_nil))) (pe_callB (clLen (K := K) rfl) rfl T.b_len PySem.boot_len (pa_cons (pe_ix (ixL (K := K) rfl) (pv 2) pe_int (fun _ _ => rfl)) pa_nil))))
      (pss_cons (ps_asg (pe_ix (ixL (K := K) rfl) (pe_ix (ixL (K := K) rfl) (pv 2) (pv 3) (fun _ _ => rfl)) (pv 4) (fun _ _ => rfl)) (pg_tup rfl (pgs_cons (pg_name (i := 5) sc.nd rfl (Or.inl rfl)) (pgs_cons (pg_name (i := 6) sc.nd rfl (Or.inl rfl)) pgs_nil))))
      (pss_cut (ps_if (pt_cmpR op_eq (pe_op op_mod (pe_dn D_law_at hr (pa_cons (pv 0) (pa_cons pe_int pa_nil))) pe_int) pe_int (nomark _))
      (pss_one (ps_asg (pe_tup (pa_cons (pe_op op_add (pe_op op_add (pv 5) pe_int) (pe_op op_mod (pe_op op_fdiv (pe_dn D_law_at hr (pa_cons (pv 0) (pa_cons pe_int pa_nil))) pe_int) (pe_op op_pow pe_int pe_int))) (pa_cons (pv 6) pa_nil))) (pg_sub (pe_ix (ixL (K := K) rfl) (pv 2) (pv 3) (fun _ _ => rfl)) (pv 4) set_list)))
      pss_nil)
      (pss_cut (ps_if (pt_cmpR op_eq (pe_op op_mod (pe_dn D_law_at hr (pa_cons (pv 0) (pa_cons pe_int pa_nil))) pe_int) pe_int (nomark _))
      (pss_one (ps_asg (pe_tup (pa_cons (pv 5) (pa_cons (pe_op op_mod (pe_op op_fdiv (pe_dn D_law_at hr (pa_cons (pv 0) (pa_cons pe_int pa_nil))) pe_int) (pe_callB (clLen (K := K) rfl) rfl T.b_len PySem.boot_len (pa_cons (pv 2) pa_nil))) pa_nil))) (pg_sub (pe_ix (ixL (K := K) rfl) (pv 2) (pv 3) (fun _ _ => rfl)) (pv 4) set_list)))
      pss_nil)
      (pss_one (ps_ret (pv 2))))))))), ?_⟩
  refine ⟨_, rfl, a, rfl, ⟨_, SqL.of ha⟩, comp_listD (K := K) (a := a) (xs := us) (fun i ys H3 => Same H H3 ∧ Paired (rMR H3) (R.take i) ys ∧ ∀ u ∈ ys, ∃ b, u = V.ref b ∧ H b = none) ⟨Same.refl _, .nil, fun _ z => by cases z⟩ (small (m := 1000) (by omega)) (fun i ys H3 hi h => ?_) (fun i v ys H3 hi h => ?_) (fun ys H3 h l hlb => ?_)⟩
  · obtain ⟨s3, p3, _⟩ := h
    refine ⟨SqL.of (s3 _ _ ha), ?_⟩
    rw [← pr_len p3]; exact List.length_take_le _ _
  · obtain ⟨s3, p3, n3⟩ := h
    have il : i < R.length := by rw [← ul]; exact (List.getElem?_eq_some_iff.mp hi).1
    obtain ⟨u, hu, hr'⟩ := hat i _ (List.getElem?_eq_getElem il)
    rw [hi] at hu
    injection hu with hu
    subst hu
    obtain ⟨ai, ui, rfl, hai, pi⟩ := mono_mr.up s3 hr'
    refine comp_yes ?_
    refine ⟨_, rfl, ai, _, rfl, .inl (SqL.of hai), fun lc hlc => ?_⟩
    refine ⟨s3.trans (same_upd hlc _), ?_, fun u hu => ?_⟩
    · rw [List.take_succ, List.getElem?_eq_getElem il]
      exact L2.Paired.app (paired_mono mono_mr (same_upd hlc _) p3) (.cons ⟨lc, ui, rfl, upd_same, paired_mono (mono_t2 mono_int mono_int) (same_upd hlc _) pi⟩ .nil)
    · rcases List.mem_append.mp hu with z | z
      · exact n3 u z
      · exact ⟨lc, List.mem_singleton.mp z, s3.free hlc⟩
  obtain ⟨s3, p3, n3⟩ := h
  rw [ul, List.take_length] at p3
  have hl0 : H l = none := s3.free hlb
  have C4 : Chg k m H l ys (upd H3 l (.lst ys)) := ⟨R, s3.trans (same_upd hlb _), upd_same, paired_mono mono_mr (same_upd hlb _) p3, M⟩
  generalize upd H3 l (.lst ys) = H4 at C4 ⊢
  have yl : (ys.length : Int) = k := by have := pr_len p3; omega
  have pos : (0 : Int) < ((ys.length : Nat) : Int) := by omega
  obtain ⟨R4, s4, l4, p4, M4⟩ := id C4
  obtain ⟨u0, hu0, b0, us0, rfl, hb0, pb0⟩ := L2.Paired.at p4 (List.getElem?_eq_getElem (show 0 < R4.length by have := M4.len; omega))
  have len0 : (us0.length : Int) = m := by have := pr_len pb0; have := (M4.row _ (List.getElem_mem (show 0 < R4.length by have := M4.len; omega))).1; omega
  refine ⟨_, rfl, sa, ns, _, rfl, s4.seq hS, h63, (by decide), (by decide), fun c1 => ⟨_, rfl, l, _, rfl, .inl (SqL.of l4), _, _, rfl, rfl, pos, ?_⟩⟩
  refine ⟨_, rfl, sa, ns, _, rfl, s4.seq hS, h63, (by decide), (by decide), fun c2 => ⟨_, rfl, l, _, _, _, rfl, rfl, SqL.of l4, atI_nat (j := 0) hu0, b0, _, rfl, .inl (SqL.of hb0), _, _, rfl, rfl, by omega, ?_⟩⟩
  have e1 := Int.emod_nonneg c1 (show ((ys.length : Nat) : Int) ≠ 0 by omega)
  have e2 := Int.emod_lt_of_pos c1 pos
  have e3 := Int.emod_nonneg c2 (show ((us0.length : Nat) : Int) ≠ 0 by omega)
  have e4 := Int.emod_lt_of_pos c2 (show (0 : Int) < ((us0.length : Nat) : Int) by omega)
  generalize hpl : c1 % ((ys.length : Nat) : Int) = pl at e1 e2
  generalize hak : c2 % ((us0.length : Nat) : Int) = ak at e3 e4
  replace hpl : (fun i j : Int => V.int (i % j)) c1 ((ys.length : Nat) : Int) = V.int pl := by rw [← hpl]
  replace hak : (fun i j : Int => V.int (i % j)) c2 ((us0.length : Nat) : Int) = V.int ak := by rw [← hak]
  rw [hpl, hak]
  clear hpl hak
  have pln : pl.toNat < ys.length := by omega
  obtain ⟨b, hyb⟩ : ∃ b, ys[pl.toNat]? = some (V.ref b) ∧ H b = none := by
    obtain ⟨b, e, hb⟩ := n3 _ (List.getElem_mem pln)
    exact ⟨b, by rw [List.getElem?_eq_getElem pln, e], hb⟩
  have row : ∀ {H' : Hp}, Chg k m H l ys H' → ∃ (vs : List V) (r : MRow) (t : Addr) (x : Int × Int), H' b = some (.lst vs) ∧ Paired (rT2 rInt rInt H') r vs ∧ (r.length : Int) = m ∧ (∀ p ∈ r, 0 ≤ p.2 ∧ p.2 < k) ∧ vs[ak.toNat]? = some (.ref t) ∧ H' t = some (.tup [V.int x.1, V.int x.2]) ∧ x ∈ r := fun {H'} C => by
    obtain ⟨R', s', l', p', M'⟩ := C
    have hlen := pr_len p'
    obtain ⟨u, hu, hru⟩ := L2.Paired.at p' (List.getElem?_eq_getElem (show pl.toNat < R'.length by omega))
    rw [hyb.1] at hu
    injection hu with hu
    subst hu
    obtain ⟨_, vs, e, hb, pr⟩ := hru
    cases e
    have rm := M'.row _ (List.getElem_mem (show pl.toNat < R'.length by omega))
    obtain ⟨u, hu, t, x, y, rfl, ht, e5, e6⟩ := L2.Paired.at pr (List.getElem?_eq_getElem (show ak.toNat < R'[pl.toNat].length by omega))
    cases e5; cases e6
    exact ⟨vs, _, t, _, hb, pr, rm.1, rm.2, hu, ht, List.getElem_mem _⟩
  have bl : b ≠ l := fun z => by
    obtain ⟨u, hu, c, vs, rfl, hc, _⟩ := L2.Paired.at p3 (List.getElem?_eq_getElem (show pl.toNat < R.length by have := pr_len p3; omega))
    rw [hyb.1] at hu
    injection hu with hu
    injection hu with hu
    rw [← hu, z, hlb] at hc; cases hc
  obtain ⟨vs4, r4, t4, x4, hb4, pr4, rl4, rg4, ht4', ht4, xm4⟩ := row C4
  have x4r := rg4 _ xm4
  refine ⟨_, rfl, _, rfl, l, _, _, _, rfl, rfl, SqL.of l4, at_int e1 hyb.1, _, rfl, b, _, _, _, rfl, rfl, SqL.of hb4, at_int e3 ht4', t4, _, rfl, SqT.of ht4, rfl, _, _, rfl, _, _, rfl, rfl, ?_⟩
  refine ⟨fun σ' H' => Chg k m H l ys H' ∧ σ' = [some (.ref sa), some (.ref a), some (.ref l), some (.int pl), some (.int ak), some (.int x4.1), some (.int x4.2)], ?_, ?_⟩
  · refine ⟨_, rfl, sa, ns, _, rfl, s4.seq hS, h63, (by decide), (by decide), fun c3 => ⟨_, _, rfl, rfl, (show (0 : Int) < 3 by decide), rfl, _, rfl, ?_⟩⟩
    refine ite2 (fun _ => ?_) (fun _ => ?_)
    · refine ⟨_, rfl, _, _, rfl, rfl, _, rfl, sa, ns, _, rfl, s4.seq hS, h63, (by decide), (by decide), fun c4 => ⟨_, _, rfl, rfl, ⟨by decide, by decide⟩, ?_⟩⟩
      refine ⟨_, _, rfl, rfl, ⟨by decide, by decide, by decide⟩, _, _, rfl, rfl, (show (0 : Int) < 10 ^ 58 by decide +kernel), _, _, rfl, rfl, _, rfl, (by show 2 ≤ sizeLine; decide), fun tn htn => ?_⟩
      have s5 := same_upd htn (.tup [V.int (x4.1 + 1 + c4 / 3 % 10 ^ 58), V.int x4.2])
      exact ⟨_, rfl, _, rfl, l, _, _, _, rfl, rfl, SqL.of (s5 _ _ l4), at_int e1 hyb.1, _, rfl, b, _, _, _, rfl, rfl, s5 _ _ hb4, (ixN_i e3 (by have := (List.getElem?_eq_some_iff.mp ht4').1; omega)), chg_put (x := (x4.1 + 1 + c4 / 3 % 10 ^ 58, x4.2)) C4 hyb.2 bl hb4 pr4 rl4 rg4 htn x4r, rfl⟩
    · exact ⟨C4, rfl⟩
  rintro σ' H5 ⟨C5, rfl⟩
  obtain ⟨vs5, r5, t5, x5, hb5, pr5, rl5, rg5, ht5', ht5, xm5⟩ := row C5
  obtain ⟨R5, s5, l5, p5, M5⟩ := id C5
  refine ⟨fun σ' H' => Chg k m H l ys H' ∧ σ' = [some (.ref sa), some (.ref a), some (.ref l), some (.int pl), some (.int ak), some (.int x4.1), some (.int x4.2)], ?_, ?_⟩
  · refine ⟨_, rfl, sa, ns, _, rfl, s5.seq hS, h63, (by decide), (by decide), fun c3 => ⟨_, _, rfl, rfl, (show (0 : Int) < 3 by decide), rfl, _, rfl, ?_⟩⟩
    refine ite2 (fun _ => ?_) (fun _ => ?_)
    · refine ⟨_, rfl, _, rfl, sa, ns, _, rfl, s5.seq hS, h63, (by decide), (by decide), fun c4 => ⟨_, _, rfl, rfl, ⟨by decide, by decide⟩, _, rfl, l, _, rfl, .inl (SqL.of l5), _, _, rfl, rfl, pos, (by show 2 ≤ sizeLine; decide), fun tn htn => ?_⟩⟩
      have s6 := same_upd htn (.tup [V.int x4.1, V.int (c4 / 3 % ((ys.length : Nat) : Int))])
      exact ⟨_, rfl, _, rfl, l, _, _, _, rfl, rfl, SqL.of (s6 _ _ l5), at_int e1 hyb.1, _, rfl, b, _, _, _, rfl, rfl, s6 _ _ hb5, (ixN_i e3 (by have := (List.getElem?_eq_some_iff.mp ht5').1; omega)), chg_put (x := (x4.1, c4 / 3 % ((ys.length : Nat) : Int))) C5 hyb.2 bl hb5 pr5 rl5 rg5 htn ⟨Int.emod_nonneg _ (by omega), by show c4 / 3 % ((ys.length : Nat) : Int) < k; rw [yl]; exact Int.emod_lt_of_pos _ (by omega)⟩, rfl⟩
    · exact ⟨C5, rfl⟩
  rintro σ' H6 ⟨C6, rfl⟩
  obtain ⟨R6, s6, l6, p6, M6⟩ := C6
  exact ⟨_, rfl, q _ R6 _ s6 ⟨l, ys, rfl, l6, p6⟩ M6⟩
def spUn : Sp := fun vs H Q _ => ∃ (v : V) (r : MRow), vs = [v] ∧ rMR H r v ∧ r.length ≤ 8 ∧ ∀ (u : V) (H' : Hp) (r' : MRow), Same H H' → rMR H' r' u → r'.length = (if r.length < 8 then r.length + 1 else 7) → (∀ p ∈ r', p ∈ r ∨ p = (0, 0)) → Q u H'
theorem cutV_fr (us : List V) (k : Nat) (h : k ≤ us.length) : cutV us (some (k : Int)) none = us.drop k := by
  unfold cutV
  rw [HT.sIx_nat, HT.sIx_none, Nat.min_eq_left h, List.take_of_length_le (by simp)]
theorem pr_drop {α β : Type} {F : α → β → Prop} : ∀ {xs : List α} {ys : List β} (n : Nat), Paired F xs ys → Paired F (xs.drop n) (ys.drop n)
  | _, _, 0, h => h
  | _, _, _ + 1, .nil => .nil
  | _, _, n + 1, .cons _ t => pr_drop n t
theorem ok_un (F : DefAt K mg "_law_unlike" s_law_unlike ["_law_row"]) (T : Txt mg) : Dn P w K mg base "_law_unlike" 1 ["_law_row"] spUn := by
  have sc := sc_law_unlike
  refine F.ok sc (fun vs H Q E h => ?_) (fun f cdv A outer s H vs Q E hr h => ?_)
  · obtain ⟨_, _, rfl, _⟩ := h; rfl
  obtain ⟨v, r, rfl, hv, few, q⟩ := h
  obtain ⟨a, us, rfl, ha, pr⟩ := hv
  have ul : r.length = us.length := pr_len pr
  refine ⟨_, (pss_cons (ps_if (pt_cmpR op_lt (pe_callB (clLen (K := K) rfl) rfl T.b_len PySem.boot_len (pa_cons (pv 0) pa_nil)) pe_int (nomark _))
      (pss_one (ps_ret (pe_op op_cat (pv 0) (pe_lst (pa_cons (pe_tup (pa_cons pe_int (pa_cons pe_int pa_nil))) pa_nil)))))
      pss_nil)
      (pss_one (ps_ret (pe_slice (slL (K := K) rfl) (pv 0) (po_some pe_int) po_none)))), ?_⟩
  refine ⟨_, rfl, a, _, rfl, .inl (SqL.of ha), _, _, rfl, rfl, _, rfl, ?_⟩
  refine ite2 (fun c => ?_) (fun c => ?_)
  · have c : ((us.length : Nat) : Int) < 8 := of_decide_eq_true c
    refine ⟨_, rfl, (by show 2 ≤ sizeLine; decide), fun tp htp => ⟨(by show 1 ≤ sizeLine; decide), fun l1 hl1 => ?_⟩⟩
    have s1 := (same_upd htp (.tup [V.int 0, V.int 0])).trans (same_upd hl1 (.lst [V.ref tp]))
    refine ⟨a, l1, _, _, rfl, rfl, s1 _ _ ha, upd_same, small (m := 1000) (by rw [List.length_singleton]; omega), fun l2 hl2 => ?_⟩
    have s2 := s1.trans (same_upd hl2 (.lst (us ++ [V.ref tp])))
    refine q _ _ (r ++ [(0, 0)]) s2 ⟨l2, _, rfl, upd_same, L2.Paired.app (paired_mono (mono_t2 mono_int mono_int) s2 pr) (.cons ⟨tp, _, _, rfl, ?_, rfl, rfl⟩ .nil)⟩ (by rw [if_pos (by omega), List.length_append]; rfl) fun p hp => ?_
    · exact ((same_upd hl1 (.lst [V.ref tp])).trans (same_upd hl2 (.lst (us ++ [V.ref tp])))) _ _ upd_same
    · rcases List.mem_append.mp hp with z | z
      · exact .inl z
      · exact .inr (List.mem_singleton.mp z)
  · have c : ¬ ((us.length : Nat) : Int) < 8 := fun z => c (decide_eq_true z)
    refine ⟨_, rfl, _, rfl, a, us, rfl, SqL.of ha, fun l2 hl2 => ?_⟩
    rw [show (1 : Int) = ((1 : Nat) : Int) from rfl, cutV_fr us 1 (by omega)]
    exact q _ _ (r.drop 1) (same_upd hl2 _) ⟨l2, _, rfl, upd_same, paired_mono (mono_t2 mono_int mono_int) (same_upd hl2 _) (pr_drop 1 pr)⟩ (by rw [if_neg (by omega), List.length_drop]; omega) fun p hp => .inl (List.mem_of_mem_drop hp)
def spMade (K : PySem.W.Frag) : Sp := fun vs H Q _ => ∃ (a : Addr) (ns : List Int), vs = [.ref a] ∧ SqL K H a (ns.map V.int) ∧ ns.length ≤ 63 ∧ ∀ (l : Addr) (v1 v2 : V) (R1 R2 : List MRow) (n1 n2 m : Int) (H' : Hp), Same H H' → H' l = some (.lst [v1, v2]) → rMs H' R1 v1 → rMs H' R2 v2 → MI n1 m R1 → MI n2 m R2 → n1 ≤ 60 → n2 ≤ 60 → Q (.ref l) H'
theorem ok_made (F : DefAt K mg "_law_made" s_law_made ["_law_script"]) (T : Txt mg) (D_law_at : Dn P w K mg base "_law_at" 1 ["_law_script", "_law_k"] (spAt K)) (D_law_free : Dn P w K mg base "_law_free" 2 ["_law_script", "_law_states", "_law_asks"] (spFree K)) (D_law_changed : Dn P w K mg base "_law_changed" 2 ["_law_script", "_law_base"] (spChg K)) (D_law_doubled : Dn P w K mg base "_law_doubled" 2 ["_law_script", "_law_base", "_law_states", "_law_by"] (spDoub K)) : Dn P w K mg base "_law_made" 3 ["_law_script"] (spMade K) := by
  have sc := sc_law_made
  refine F.ok sc (fun vs H Q E h => ?_) (fun f cdv A outer s H vs Q E hr h => ?_)
  · obtain ⟨_, _, rfl, _⟩ := h; rfl
  obtain ⟨a, ns, rfl, hS, h63, q⟩ := h
  refine ⟨_, (pss_cons (ps_set (i := 1) sc.nd rfl (Or.inl rfl) (pe_dn D_law_at hr (pa_cons (pv 0) (pa_cons pe_int pa_nil))))
      (pss_cons (ps_set (i := 2) sc.nd rfl (Or.inl rfl) (pe_op op_add pe_int (pe_op op_mod (pv 1) pe_int)))
      (pss_cons (ps_set (i := 3) sc.nd rfl (Or.inl rfl) (pe_lst (pa_cons (pe_op op_mod (pe_op op_fdiv (pv 1) pe_int) pe_int) (pa_cons (pe_op op_mod (pe_op op_fdiv (pv 1) pe_int) pe_int) pa_nil))))
      (pss_cons (ps_set (i := 4) sc.nd rfl (Or.inl rfl) (pe_op op_add pe_int (pe_op op_mod (pe_op op_fdiv (pv 1) pe_int) pe_int)))
      (pss_cut (ps_if (pt_cmpR op_eq (pe_op op_mod (pe_op op_fdiv (pv 1) pe_int) pe_int) pe_int (nomark _))
      (pss_one (ps_set (i := 4) sc.nd rfl (Or.inl rfl) (pe_op op_add pe_int (pe_op op_mod (pe_op op_fdiv (pv 1) pe_int) pe_int))))
      pss_nil)
      (pss_cut (ps_if (pt_cmpR op_eq (pe_op op_mod (pe_op op_fdiv (pv 1) pe_int) pe_int) pe_int (nomark _))
      (pss_cons (ps_set (i := 2) sc.nd rfl (Or.inl rfl) (pe_op op_add pe_int (pe_op op_mod (pe_op op_fdiv (pv 1) pe_int) pe_int)))
      (pss_one (ps_set (i := 3) sc.nd rfl (Or.inl rfl) (pe_lst (pa_cons (pe_op op_mod (pe_op op_fdiv (pv 1) pe_int) pe_int) (pa_cons (pe_op op_mod (pe_op op_fdiv (pv 1) pe_int) pe_int) pa_nil))))))
      pss_nil)
      (pss_cons (ps_set (i := 5) sc.nd rfl (Or.inl rfl) (pe_dn D_law_free hr (pa_cons (pv 0) (pa_cons (pv 2) (pa_cons (pv 4) pa_nil)))))
      (pss_cons (ps_set (i := 6) sc.nd rfl (Or.inl rfl) (pe_dn D_law_doubled hr (pa_cons (pv 0) (pa_cons (pv 5) (pa_cons (pe_op op_add (pv 2) (pe_ix (ixL (K := K) rfl) (pv 3) pe_int (fun _ _ => rfl))) (pa_cons pe_int pa_nil))))))
      (pss_one (ps_ret (pe_lst (pa_cons (pv 6) (pa_cons (pe_dn D_law_doubled hr (pa_cons (pv 0) (pa_cons (pe_dn D_law_changed hr (pa_cons (pv 0) (pa_cons (pv 5) pa_nil))) (pa_cons (pe_op op_add (pv 2) (pe_ix (ixL (K := K) rfl) (pv 3) pe_int (fun _ _ => rfl))) (pa_cons pe_int pa_nil))))) pa_nil))))))))))))), ?_⟩
  refine ⟨_, rfl, a, ns, _, rfl, hS, h63, (by decide), (by decide), fun hd => ?_⟩
  have md := fun (c k : Int) (hk : 0 < k) => (⟨Int.emod_nonneg c (by omega), Int.emod_lt_of_pos c hk⟩ : 0 ≤ c % k ∧ c % k < k)
  have a1 := md hd 4 (by decide)
  have a2 := md (hd / 4) 5 (by decide)
  have a3 := md (hd / 20) 5 (by decide)
  have a4 := md (hd / 100) 3 (by decide)
  have a5 := md (hd / 1500) 8 (by decide)
  have a6 := md (hd / 1500) 10 (by decide)
  have a7 := md (hd / 15000) 21 (by decide)
  have a8 := md (hd / 315000) 21 (by decide)
  refine ⟨_, rfl, _, _, rfl, rfl, (show (0 : Int) < 4 by decide), _, _, rfl, rfl, ?_⟩
  refine ⟨_, rfl, _, _, rfl, rfl, ⟨by decide, by decide⟩, _, _, rfl, rfl, (show (0 : Int) < 5 by decide), _, rfl, _, _, rfl, rfl, ⟨by decide, by decide⟩, _, _, rfl, rfl, (show (0 : Int) < 5 by decide), (by show 2 ≤ sizeLine; decide), fun la hla => ?_⟩
  have s1 := same_upd hla (.lst [V.int (hd / 4 % 5), V.int (hd / 20 % 5)])
  have l1 : upd H la (.lst [V.int (hd / 4 % 5), V.int (hd / 20 % 5)]) la = some (.lst [V.int (hd / 4 % 5), V.int (hd / 20 % 5)]) := upd_same
  refine ⟨_, rfl, _, _, rfl, rfl, ⟨by decide, by decide⟩, _, _, rfl, rfl, (show (0 : Int) < 3 by decide), _, _, rfl, rfl, ?_⟩
  refine ⟨fun σ' H' => (Same H H' ∧ H' la = some (.lst [V.int (hd / 4 % 5), V.int (hd / 20 % 5)])) ∧ ∃ m : Int, (1 ≤ m ∧ m ≤ 8) ∧ σ' = [some (.ref a), some (.int hd), some (.int (1 + hd % 4)), some (.ref la), some (.int m), none, none], ?_, ?_⟩
  · refine ⟨_, rfl, _, _, rfl, rfl, ⟨by decide, by decide⟩, _, _, rfl, rfl, (show (0 : Int) < 5 by decide), rfl, _, rfl, ?_⟩
    refine ite2 (fun _ => ?_) (fun _ => ?_)
    · exact ⟨_, rfl, _, _, rfl, rfl, ⟨by decide, by decide⟩, _, _, rfl, rfl, (show (0 : Int) < 8 by decide), _, _, rfl, rfl, ⟨s1, l1⟩, 1 + hd / 1500 % 8, by omega, rfl⟩
    · exact ⟨⟨s1, l1⟩, 1 + hd / 100 % 3, by omega, rfl⟩
  rintro σ' H1 ⟨⟨s1, l1⟩, m, hm, rfl⟩
  refine ⟨fun σ' H' => ∃ (n : Int) (lb : Addr) (x y : Int), (1 ≤ n ∧ n ≤ 10 ∧ 0 ≤ x ∧ x ≤ 20 ∧ 0 ≤ y ∧ y ≤ 20) ∧ Same H H' ∧ H' lb = some (.lst [V.int x, V.int y]) ∧ σ' = [some (.ref a), some (.int hd), some (.int n), some (.ref lb), some (.int m), none, none], ?_, ?_⟩
  · refine ⟨_, rfl, _, _, rfl, rfl, ⟨by decide, by decide⟩, _, _, rfl, rfl, (show (0 : Int) < 5 by decide), rfl, _, rfl, ?_⟩
    refine ite2 (fun _ => ?_) (fun _ => ?_)
    · refine ⟨_, rfl, _, _, rfl, rfl, ⟨by decide, by decide⟩, _, _, rfl, rfl, (show (0 : Int) < 10 by decide), _, _, rfl, rfl, ?_⟩
      refine ⟨_, rfl, _, _, rfl, rfl, ⟨by decide, by decide⟩, _, _, rfl, rfl, (show (0 : Int) < 21 by decide), _, rfl, _, _, rfl, rfl, ⟨by decide, by decide⟩, _, _, rfl, rfl, (show (0 : Int) < 21 by decide), (by show 2 ≤ sizeLine; decide), fun lb hlb => ?_⟩
      exact ⟨1 + hd / 1500 % 10, lb, hd / 15000 % 21, hd / 315000 % 21, by omega, s1.trans (same_upd hlb _), upd_same, rfl⟩
    · exact ⟨1 + hd % 4, la, hd / 4 % 5, hd / 20 % 5, by omega, s1, l1, rfl⟩
  rintro σ' H2 ⟨n, lb, x, y, hn, s2, l2, rfl⟩
  refine ⟨_, rfl, _, rfl, _, rfl, a, ns, n, m, rfl, s2.seq hS, h63, by omega, by omega, by omega, by omega, fun v0 R0 H3 s3 hv0 M0 => ?_⟩
  have s23 := s2.trans s3
  refine ⟨_, rfl, _, rfl, _, rfl, _, rfl, lb, _, _, _, rfl, rfl, SqL.of (s3 _ _ l2), atI_nat (j := 0) rfl, _, _, rfl, rfl, a, ns, _, R0, n, n + x, m, _, rfl, s23.seq hS, h63, hv0, M0, by omega, by omega, by decide, by decide, fun v1 R1 H4 s4 hv1 M1 => ?_⟩
  refine ⟨_, rfl, _, rfl, _, rfl, _, rfl, a, ns, _, R0, n, m, rfl, (s23.trans s4).seq hS, h63, mono_ms.up s4 hv0, M0, fun v5 R5 H5 s5 hv5 M5 => ?_⟩
  have s45 := s4.trans s5
  refine ⟨_, rfl, _, rfl, lb, _, _, _, rfl, rfl, SqL.of (s45 _ _ (s3 _ _ l2)), atI_nat (j := 1) rfl, _, _, rfl, rfl, a, ns, _, R5, n, n + y, m, _, rfl, (s23.trans s45).seq hS, h63, hv5, M5, by omega, by omega, by decide, by decide, fun v2 R2 H6 s6 hv2 M2 => ?_⟩
  refine ⟨(by show 2 ≤ sizeLine; decide), fun l hl => ?_⟩
  have s7 := same_upd hl (.lst [v1, v2])
  exact q l v1 v2 R1 R2 _ _ m _ ((s23.trans s45).trans (s6.trans s7)) upd_same (mono_ms.up (s5.trans (s6.trans s7)) hv1) (mono_ms.up s7 hv2) M1 M2 (by omega) (by omega)
def spRef : Sp := fun vs H Q _ => ∃ (v1 v2 : V) (z1 z2 : Nat) (R1 R2 : List MRow), vs = [v1, v2] ∧ rT2 rInt rMs H ((z1 : Int), R1) v1 ∧ rT2 rInt rMs H ((z2 : Int), R2) v2 ∧ MG R1 ∧ MG R2 ∧ R1.length + R2.length ≤ 160 ∧ z1 < R1.length ∧ z2 < R2.length ∧ (mch R1).asks ≠ (mch R2).asks ∧ ∀ H', Same H H' → Q (.bl true) H'
theorem ok_ref (F : DefAt K mg "_law_refused" s_law_refused ["_law_one", "_law_other"]) (T : Txt mg) (XC : XT K mg "GarthError" xRs xNs) (D_differ : DnX P w K mg base "differ" 5 ["one", "other"] (spDiff K)) : Dn P w K mg base "_law_refused" 6 ["_law_one", "_law_other"] spRef := by
  have sc := sc_law_refused
  refine F.ok sc (fun vs H Q E h => ?_) (fun f cdv A outer s H vs Q E hr h => ?_)
  · obtain ⟨_, _, _, _, _, _, rfl, _⟩ := h; rfl
  obtain ⟨v1, v2, z1, z2, R1, R2, rfl, hv1, hv2, g1, g2, few, l1, l2, no, q⟩ := h
  refine ⟨_, (pss_cons (ps_set (i := 2) sc.nd rfl (Or.inl rfl) pe_non)
      (pss_cons (ps_tryE (i := 3) D_differ hr (pa_cons (pv 0) (pa_cons (pv 1) pa_nil)) (XC.m "GarthError" (by decide)) (fun _ => (pss_one (ps_set (i := 2) sc.nd rfl (Or.inl rfl) (pv 3)))) sc.nd rfl rfl)
      (pss_one (ps_ret (pe_and (pe_callB call_isiE rfl T.b_isinstance PyProof.Rows.boot_isinstance (pa_cons (pv 2) (pa_cons (pe_glob (v := .ref (clK K "NoMachine")) rfl (XC.m "NoMachine" (by decide)) rfl) pa_nil))) (pe_and (pe_callB (call_isiV (T := "ValueError")) rfl T.b_isinstance PyProof.Rows.boot_isinstance (pa_cons (pv 2) (pa_cons (pe_bltn (v := .ty "ValueError") rfl T.b_ValueError boot_VE rfl) pa_nil))) (pe_one (pe_not (pe_callB call_isiE rfl T.b_isinstance PyProof.Rows.boot_isinstance (pa_cons (pv 2) (pa_cons (pe_glob (v := .ref (clK K "NoAsk")) rfl (XC.m "NoAsk" (by decide)) rfl) pa_nil))))))))))), ?_⟩
  refine ⟨_, rfl, _, rfl, _, _, z1, z2, R1, R2, rfl, hv1, hv2, g1, g2, few, l1, l2, fun e => absurd e no, fun _ H' s' => ?_⟩
  refine ⟨_, rfl, XC.hit "NoMachine" (by decide), fun ea hea => ?_⟩
  have he : upd H' ea (xcO ea (clK K "NoMachine")) ea = some (xcO ea (clK K "NoMachine")) := upd_same
  have s7 := s'.trans (same_upd hea (xcO ea (clK K "NoMachine")))
  generalize upd H' ea (xcO ea (clK K "NoMachine")) = H9 at he s7 ⊢
  refine ⟨_, rfl, _, rfl, ea, _, _, _, rfl, he, XC.k "NoMachine" (by decide), XC.one "NoMachine" (by decide) "NoMachine" (by decide), _, rfl, ?_⟩
  refine ite2 (fun _ => ?_) (fun z => absurd (by decide +kernel) z)
  refine ⟨_, rfl, ea, _, _, rfl, he, XC.k "NoMachine" (by decide), XC.val "NoMachine" (by decide), _, rfl, iteT ?_⟩
  refine ⟨_, rfl, ea, _, _, _, rfl, he, XC.k "NoMachine" (by decide), XC.one "NoMachine" (by decide) "NoAsk" (by decide), _, rfl, ?_⟩
  rw [decide_eq_false (by decide +kernel)]
  exact q _ s7
def spLaw (K : PySem.W.Frag) : Sp := fun vs H Q _ => ∃ (a : Addr) (ns : List Int), vs = [.ref a] ∧ SqL K H a (ns.map V.int) ∧ ns.length ≤ 63 ∧ ∀ H', Q (.bl true) H'
theorem ans_swap {R1 R2 : List MRow} (t : TwoOk R1 R2) {p q : Nat} (hp : p < R1.length) (hq : q < R2.length) : ∀ {so : Option (List Nat)}, AnsR (two R1 R2) p (R1.length + q) so → AnsR (two R2 R1) q (R2.length + p) so
  | none, h => fun s z => h s (t.swap.tl hq hp z)
  | some s, h => ⟨t.tl hp hq h.1, fun u hu => h.2 u (t.swap.tl hq hp hu)⟩
theorem ok_law {f : Addr} {fd : FuncData} (F : Fun K "law" "law" s_law f fd) (T : Txt mg) (D_machine_of : DnX P w K mg base "machine_of" 5 ["start", "rows"] (spMO K)) (D_differ : DnX P w K mg base "differ" 5 ["one", "other"] (spDiff K)) (D_least_machine : Dn P w K mg base "least_machine" 4 ["machine"] spLeast) (D_law_at : Dn P w K mg base "_law_at" 1 ["_law_script", "_law_k"] (spAt K)) (D_law_made : Dn P w K mg base "_law_made" 3 ["_law_script"] (spMade K))
    (D_law_first : Dn P w K mg base "_law_first" 1 ["_law_rows", "_law_others", "_law_one", "_law_other"] spFst) (D_law_is_due : Dn P w K mg base "_law_is_due" 2 ["_law_found", "_law_due"] spDue) (D_law_refused : Dn P w K mg base "_law_refused" 6 ["_law_one", "_law_other"] spRef) (D_law_unlike : Dn P w K mg base "_law_unlike" 1 ["_law_row"] spUn) : FnOk P w K mg base CX0 7 f fd ["_law_script"] (spLaw K) := by
  have sc := sc_law
  refine F.ok sc (fun vs H Q E h => ?_) (fun cdv A outer s H vs Q E hr h => ?_)
  · obtain ⟨_, _, rfl, _⟩ := h; rfl
  obtain ⟨sa, ns, rfl, hS, h63, q⟩ := h
  refine ⟨_, (pss_cons (ps_asg (pe_dn D_law_made hr (pa_cons (pv 0) pa_nil)) (pg_lst rfl (pgs_cons (pg_name (i := 1) sc.nd rfl (Or.inl rfl)) (pgs_cons (pg_name (i := 2) sc.nd rfl (Or.inl rfl)) pgs_nil))))
      (pss_cons (ps_set (i := 3) sc.nd rfl (Or.inl rfl) (pe_op op_mod (pe_dn D_law_at hr (pa_cons (pv 0) (pa_cons pe_int pa_nil))) (pe_callB (clLen (K := K) rfl) rfl T.b_len PySem.boot_len (pa_cons (pv 1) pa_nil))))
      (pss_cons (ps_set (i := 4) sc.nd rfl (Or.inl rfl) (pe_op op_mod (pe_dn D_law_at hr (pa_cons (pv 0) (pa_cons pe_int pa_nil))) (pe_callB (clLen (K := K) rfl) rfl T.b_len PySem.boot_len (pa_cons (pv 2) pa_nil))))
      (pss_cut (ps_if (pt_cmpR op_eq (pe_op op_mod (pe_dn D_law_at hr (pa_cons (pv 0) (pa_cons pe_int pa_nil))) pe_int) pe_int (nomark _))
      (pss_one (ps_set (i := 4) sc.nd rfl (Or.inl rfl) (pe_op op_mod (pv 3) (pe_callB (clLen (K := K) rfl) rfl T.b_len PySem.boot_len (pa_cons (pv 2) pa_nil)))))
      pss_nil)
      (pss_cons (ps_set (i := 5) sc.nd rfl (Or.inl rfl) (pe_dnX passX0 D_machine_of hr (pa_cons (pv 3) (pa_cons (pe_lc (defScope s_law) ["_law_script", "_law_rows", "_law_others", "_law_start", "_law_first_here", "_law_one", "_law_other", "_law_due", "_law_third"] ["_law_row"] 1 [] (pi_list (pv 1)) (fun _ _ _ _ _ _ => (ptg_name (show List.Nodup (["_law_row"] : List Str) by decide +kernel) rfl rfl)) (fun _ _ _ _ _ _ => pts_nil) (fun _ _ _ _ _ _ => (pe_callTy (clList (K := K) rfl) rfl T.b_list PyProof.Rows.boot_list (pa_cons (pv 0) pa_nil)))) pa_nil))))
      (pss_cons (ps_set (i := 6) sc.nd rfl (Or.inl rfl) (pe_dnX passX0 D_machine_of hr (pa_cons (pv 4) (pa_cons (pe_lc (defScope s_law) ["_law_script", "_law_rows", "_law_others", "_law_start", "_law_first_here", "_law_one", "_law_other", "_law_due", "_law_third"] ["_law_row"] 1 [] (pi_list (pv 2)) (fun _ _ _ _ _ _ => (ptg_name (show List.Nodup (["_law_row"] : List Str) by decide +kernel) rfl rfl)) (fun _ _ _ _ _ _ => pts_nil) (fun _ _ _ _ _ _ => (pe_callTy (clList (K := K) rfl) rfl T.b_list PyProof.Rows.boot_list (pa_cons (pv 0) pa_nil)))) pa_nil))))
      (pss_cons (ps_set (i := 7) sc.nd rfl (Or.inl rfl) (pe_dn D_law_first hr (pa_cons (pv 1) (pa_cons (pv 2) (pa_cons (pv 3) (pa_cons (pv 4) pa_nil))))))
      (pss_cons (ps_if (PW.pt (pw_or (pt_not (pt_val (pe_dn D_law_is_due hr (pa_cons (pe_dnX passX0 D_differ hr (pa_cons (pv 5) (pa_cons (pv 6) pa_nil))) (pa_cons (pv 7) pa_nil))))) (pw_or1 (pt_not (pt_val (pe_dn D_law_is_due hr (pa_cons (pe_dnX passX0 D_differ hr (pa_cons (pv 6) (pa_cons (pv 5) pa_nil))) (pa_cons (pv 7) pa_nil))))))))
      (pss_one (ps_ret pe_bl))
      pss_nil)
      (pss_cons (ps_if (pt_cmpR op_ne (pe_cmpR (op_eqD (rcd_t2 (EqD.up eqd_int (by decide : 0 ≤ 3)) (eqd_lst (eqd_lst (eqd_t2 eqd_int eqd_int)))) (hu_n hr 4)) (pe_dn D_least_machine hr (pa_cons (pv 5) pa_nil)) (pe_dn D_least_machine hr (pa_cons (pv 6) pa_nil)) (nomark _)) (pe_cmp (pc_isN (pv 7))) (nomark _))
      (pss_one (ps_ret pe_bl))
      pss_nil)
      (pss_cons (ps_set (i := 8) sc.nd rfl (Or.inl rfl) (pe_dnX passX0 D_machine_of hr (pa_cons (pv 4) (pa_cons (pe_lc (defScope s_law) ["_law_script", "_law_rows", "_law_others", "_law_start", "_law_first_here", "_law_one", "_law_other", "_law_due", "_law_third"] ["_law_row"] 1 [] (pi_list (pv 2)) (fun _ _ _ _ _ _ => (ptg_name (show List.Nodup (["_law_row"] : List Str) by decide +kernel) rfl rfl)) (fun _ _ _ _ _ _ => pts_nil) (fun _ _ _ _ _ _ => (pe_dn D_law_unlike hr (pa_cons (pv 0) pa_nil)))) pa_nil))))
      (pss_cons (ps_if (PW.pt (pw_or (pt_not (pt_val (pe_dn D_law_refused hr (pa_cons (pv 5) (pa_cons (pv 8) pa_nil))))) (pw_or1 (pt_not (pt_val (pe_dn D_law_refused hr (pa_cons (pv 8) (pa_cons (pv 5) pa_nil))))))))
      (pss_one (ps_ret pe_bl))
      pss_nil)
      (pss_one (ps_ret (pe_and (pe_dn D_law_is_due hr (pa_cons (pe_dnX passX0 D_differ hr (pa_cons (pv 5) (pa_cons (pv 6) pa_nil))) (pa_cons (pv 7) pa_nil))) (pe_and (pe_cmpR (op_eqD (rcd_t2 (EqD.up eqd_int (by decide : 0 ≤ 3)) (eqd_lst (eqd_lst (eqd_t2 eqd_int eqd_int)))) (hu_n hr 4)) (pv 5) (pe_tup (pa_cons (pv 3) (pa_cons (pv 1) pa_nil))) (nomark _)) (pe_one (pe_cmpR (op_eqD (rcd_t2 (EqD.up eqd_int (by decide : 0 ≤ 3)) (eqd_lst (eqd_lst (eqd_t2 eqd_int eqd_int)))) (hu_n hr 4)) (pv 6) (pe_tup (pa_cons (pv 4) (pa_cons (pv 2) pa_nil))) (nomark _)))))))))))))))))), ?_⟩
  refine ⟨_, rfl, sa, ns, rfl, hS, h63, fun l v1 v2 R1 R2 n1 n2 m H1 s1 hl hv1 hv2 M1 M2 k1 k2 => ?_⟩
  refine ⟨l, _, rfl, SqL.of hl, rfl, _, _, rfl, _, _, rfl, rfl, ?_⟩
  have rl1 := M1.len
  have rl2 := M2.len
  have p1 := M1.n1
  have p2 := M2.n1
  have m1 := M1.m1
  have m8 := M1.m3
  obtain ⟨a1, us1, rfl, ha1, ul1, hat1⟩ := ms_parts hv1
  obtain ⟨a2, us2, rfl, ha2, ul2, hat2⟩ := ms_parts hv2
  have pos1 : (0 : Int) < ((us1.length : Nat) : Int) := by omega
  have pos2 : (0 : Int) < ((us2.length : Nat) : Int) := by omega
  refine ⟨_, rfl, sa, ns, _, rfl, s1.seq hS, h63, (by decide), (by decide), fun c1 => ⟨_, rfl, a1, _, rfl, .inl (SqL.of ha1), _, _, rfl, rfl, pos1, ?_⟩⟩
  refine ⟨_, rfl, sa, ns, _, rfl, s1.seq hS, h63, (by decide), (by decide), fun c2 => ⟨_, rfl, a2, _, rfl, .inl (SqL.of ha2), _, _, rfl, rfl, pos2, ?_⟩⟩
  have md : ∀ (us : List V) (R : List MRow) (c : Int), us.length = R.length → (0 : Int) < ((us.length : Nat) : Int) → ∃ p : Nat, p < R.length ∧ c % ((us.length : Nat) : Int) = (p : Int) := fun us R c ul pos => by
    have e1 := Int.emod_nonneg c (show ((us.length : Nat) : Int) ≠ 0 by omega)
    have e2 := Int.emod_lt_of_pos c pos
    exact ⟨(c % ((us.length : Nat) : Int)).toNat, by omega, by omega⟩
  obtain ⟨z1, hz1, e1⟩ := md us1 R1 c1 ul1 pos1
  replace e1 : (fun i j : Int => V.int (i % j)) c1 ((us1.length : Nat) : Int) = V.int (z1 : Int) := by rw [← e1]
  rw [e1]
  clear e1
  refine ⟨fun σ' H' => H' = H1 ∧ ∃ z2 : Nat, z2 < R2.length ∧ σ' = [some (.ref sa), some (.ref a1), some (.ref a2), some (.int (z1 : Int)), some (.int (z2 : Int)), none, none, none, none], ?_, ?_⟩
  · refine ⟨_, rfl, sa, ns, _, rfl, s1.seq hS, h63, (by decide), (by decide), fun c3 => ⟨_, _, rfl, rfl, (show (0 : Int) < 2 by decide), rfl, _, rfl, ?_⟩⟩
    refine ite2 (fun _ => ?_) (fun _ => ?_)
    · refine ⟨_, rfl, _, rfl, a2, _, rfl, .inl (SqL.of ha2), _, _, rfl, rfl, pos2, rfl, ?_⟩
      obtain ⟨z2, hz2, e2⟩ := md us2 R2 (z1 : Int) ul2 pos2
      exact ⟨z2, hz2, by rw [← e2]; rfl⟩
    · obtain ⟨z2, hz2, e2⟩ := md us2 R2 c2 ul2 pos2
      exact ⟨rfl, z2, hz2, by rw [← e2]; rfl⟩
  rintro σ' _ ⟨rfl, z2, hz2, rfl⟩
  rename_i H1
  have t : TwoOk R1 R2 := ⟨M1.g, M2.g, by omega, by have := M1.hd; have := M2.hd; show (R1.headD []).length = (R2.headD []).length; omega⟩
  have f8 : ∀ (R : List MRow), MG R → ∀ r ∈ R, r.length ≤ 1000 := fun R g r hr => by have := g.fw2 r hr; omega
  refine ⟨_, rfl, _, rfl, a1, rfl, ⟨_, SqL.of ha1⟩, comp_listD (K := K) (a := a1) (xs := us1) (fun i ys H3 => Same H1 H3 ∧ Paired (rMR H3) (R1.take i) ys) ⟨Same.refl _, .nil⟩ (small (m := 1000) (by omega)) (fun i ys H3 hi h => ?_) (fun i v ys H3 hi h => ?_) (fun ys H3 h lb hlb => ?_)⟩
  · obtain ⟨s3, p3⟩ := h
    refine ⟨SqL.of (s3 _ _ ((Same.refl H1) _ _ ha1)), ?_⟩
    rw [← pr_len p3]; exact List.length_take_le _ _
  · obtain ⟨s3, p3⟩ := h
    have il : i < R1.length := by rw [← ul1]; exact (List.getElem?_eq_some_iff.mp hi).1
    obtain ⟨u, hu, hr'⟩ := hat1 i _ (List.getElem?_eq_getElem il)
    rw [hi] at hu
    injection hu with hu
    subst hu
    obtain ⟨ai, ui, rfl, hai, pi⟩ := mono_mr.up ((Same.refl H1).trans s3) hr'
    refine comp_yes ?_
    refine ⟨_, rfl, ai, _, rfl, .inl (SqL.of hai), fun lc hlc => ?_⟩
    refine ⟨s3.trans (same_upd hlc _), ?_⟩
    rw [List.take_succ, List.getElem?_eq_getElem il]
    exact L2.Paired.app (paired_mono mono_mr (same_upd hlc _) p3) (.cons ⟨lc, ui, rfl, upd_same, paired_mono (mono_t2 mono_int mono_int) (same_upd hlc _) pi⟩ .nil)
  obtain ⟨s3, p3⟩ := h
  rw [ul1, List.take_length] at p3
  have s4 := s3.trans (same_upd hlb (.lst ys))
  have hl4 : rMs (upd H3 lb (.lst ys)) R1 (.ref lb) := ⟨lb, ys, rfl, upd_same, paired_mono mono_mr (same_upd hlb _) p3⟩
  generalize upd H3 lb (.lst ys) = H4 at s4 hl4 ⊢
  refine ⟨_, _, R1, rfl, hl4, by omega, f8 R1 M1.g, fun _ w1 H5 s5 hw1 => ?_, fun no => absurd (M1.ok (by omega)) no⟩
  have s15 := s4.trans s5
  clear p3 hl4 hlb
  have ha2' := s15 _ _ ha2
  refine ⟨_, rfl, _, rfl, a2, rfl, ⟨_, SqL.of ha2'⟩, comp_listD (K := K) (a := a2) (xs := us2) (fun i ys H3 => Same H5 H3 ∧ Paired (rMR H3) (R2.take i) ys) ⟨Same.refl _, .nil⟩ (small (m := 1000) (by omega)) (fun i ys H3 hi h => ?_) (fun i v ys H3 hi h => ?_) (fun ys H3 h lb hlb => ?_)⟩
  · obtain ⟨s3, p3⟩ := h
    refine ⟨SqL.of (s3 _ _ (s15 _ _ ha2)), ?_⟩
    rw [← pr_len p3]; exact List.length_take_le _ _
  · obtain ⟨s3, p3⟩ := h
    have il : i < R2.length := by rw [← ul2]; exact (List.getElem?_eq_some_iff.mp hi).1
    obtain ⟨u, hu, hr'⟩ := hat2 i _ (List.getElem?_eq_getElem il)
    rw [hi] at hu
    injection hu with hu
    subst hu
    obtain ⟨ai, ui, rfl, hai, pi⟩ := mono_mr.up (s15.trans s3) hr'
    refine comp_yes ?_
    refine ⟨_, rfl, ai, _, rfl, .inl (SqL.of hai), fun lc hlc => ?_⟩
    refine ⟨s3.trans (same_upd hlc _), ?_⟩
    rw [List.take_succ, List.getElem?_eq_getElem il]
    exact L2.Paired.app (paired_mono mono_mr (same_upd hlc _) p3) (.cons ⟨lc, ui, rfl, upd_same, paired_mono (mono_t2 mono_int mono_int) (same_upd hlc _) pi⟩ .nil)
  obtain ⟨s3, p3⟩ := h
  rw [ul2, List.take_length] at p3
  have s4 := s3.trans (same_upd hlb (.lst ys))
  have hl4 : rMs (upd H3 lb (.lst ys)) R2 (.ref lb) := ⟨lb, ys, rfl, upd_same, paired_mono mono_mr (same_upd hlb _) p3⟩
  generalize upd H3 lb (.lst ys) = H4 at s4 hl4 ⊢
  refine ⟨_, _, R2, rfl, hl4, by omega, f8 R2 M2.g, fun _ w2 H6 s6 hw2 => ?_, fun no => absurd (M2.ok (by omega)) no⟩
  have s16 := s15.trans (s4.trans s6)
  replace hw1 := (mono_t2 mono_int mono_ms).up (s4.trans s6) hw1
  refine ⟨_, rfl, _, rfl, _, rfl, _, rfl, _, _, R1, R2, z1, z2, rfl, mono_ms.up s16 hv1, mono_ms.up s16 hv2, t, hz1, hz2, frq_of fun so dv H7 ans s7 hdv => ?_⟩
  replace hw1 := (mono_t2 mono_int mono_ms).up s7 hw1
  replace hw2 := (mono_t2 mono_int mono_ms).up s7 hw2
  have s17 := s16.trans s7
  refine ⟨_, rfl, _, rfl, _, _, z1, z2, R1, R2, rfl, hw1, hw2, t.g1, t.g2, t.few, hz1, hz2, fun _ => apq_of fun so' fv H8 ans' s8 hfv _ _ => ?_, fun no => absurd t.asks no⟩
  obtain rfl := ans.one ans'
  refine ⟨_, rfl, _, _, so, rfl, hfv, hdv.up s8, fun H9 s9 => ⟨_, rfl, iteF ?_⟩⟩
  have s79 := s8.trans s9
  have ts := t.swap
  refine ⟨_, rfl, _, rfl, _, _, z2, z1, R2, R1, rfl, (mono_t2 mono_int mono_ms).up s79 hw2, (mono_t2 mono_int mono_ms).up s79 hw1, ts.g1, ts.g2, ts.few, hz2, hz1, fun _ => apq_of fun so' gv HA ans' sA hgv _ _ => ?_, fun no => absurd ts.asks no⟩
  obtain rfl := (ans_swap t hz1 hz2 ans).one ans'
  refine ⟨_, rfl, _, _, so, rfl, hgv, hdv.up (s79.trans sA), fun HB sB => ⟨_, rfl, iteF ?_⟩⟩
  have s7B := s79.trans (sA.trans sB)
  refine ⟨_, rfl, _, z1, R1, rfl, (mono_t2 mono_int mono_ms).up s7B hw1, t.g1, hz1, fun x1 HC LA t1 sC kd1 lo1 hx1 => ?_⟩
  refine ⟨_, rfl, _, z2, R2, rfl, (mono_t2 mono_int mono_ms).up (s7B.trans sC) hw2, t.g2, hz2, fun x2 HD LB t2 sD kd2 lo2 hx2 => ?_⟩
  refine ⟨_, _, (mono_t2 mono_int mono_ms).up sD hx1, hx2, ?_⟩
  have leq : decide (((0 : Int), lInt LA) = (0, lInt LB)) = so.isNone := by
    have iff := least_iff t kd1 kd2 hz1 hz2 lo1 lo2
    cases so with
    | none => exact decide_eq_true (by rw [iff.mpr ans])
    | some u => exact decide_eq_false fun z => (by
        injection z with _ z
        exact iff.mp (lInt_inj z) u ans.1)
  rw [leq]
  have dn : decide (dv = .non) = so.isNone := by
    cases so with
    | none => exact decide_eq_true hdv
    | some u => obtain ⟨x, rfl, _⟩ := hdv; rfl
  refine ⟨_, rfl, rfl, _, rfl, ?_⟩
  refine ite2 (fun c => ?_) (fun _ => ?_)
  · exfalso
    have c' : (!decide (V.bl so.isNone = V.bl (decide (dv = .non)))) = true := c
    rw [dn, decide_eq_true rfl] at c'; cases c'
  have s7D := s7B.trans (sC.trans sD)
  have s1D := s17.trans s7D
  obtain ⟨mu, hmu⟩ : ∃ mu : Nat, mu = (if m < 8 then m.toNat + 1 else 7) := ⟨_, rfl⟩
  have mu1 : 1 ≤ mu ∧ mu ≤ 8 ∧ (mu : Int) ≠ m := by
    by_cases c : m < 8
    · rw [if_pos c] at hmu; omega
    · rw [if_neg c] at hmu; omega
  refine ⟨_, rfl, _, rfl, a2, rfl, ⟨_, SqL.of (s1D _ _ ha2)⟩, comp_listD (K := K) (a := a2) (xs := us2) (fun i ys H3 => Same HD H3 ∧ ∃ R3 : List MRow, R3.length = i ∧ Paired (rMR H3) R3 ys ∧ ∀ r ∈ R3, (r.length : Int) = (mu : Int) ∧ ∀ p ∈ r, 0 ≤ p.2 ∧ p.2 < n2) ⟨Same.refl _, [], rfl, .nil, fun _ z => by cases z⟩ (small (m := 1000) (by omega)) (fun i ys H3 hi h => ?_) (fun i v ys H3 hi h => ?_) (fun ys H3 h lb hlb => ?_)⟩
  · obtain ⟨s3, R3, l3, p3, _⟩ := h
    refine ⟨SqL.of (s3 _ _ (s1D _ _ ha2)), ?_⟩
    rw [← pr_len p3, l3]; exact Nat.le_refl _
  · obtain ⟨s3, R3, l3, p3, g3⟩ := h
    have il : i < R2.length := by rw [← ul2]; exact (List.getElem?_eq_some_iff.mp hi).1
    obtain ⟨u, hu, hr'⟩ := hat2 i _ (List.getElem?_eq_getElem il)
    rw [hi] at hu
    injection hu with hu
    subst hu
    have rm := M2.row _ (List.getElem_mem il)
    refine comp_yes ?_
    refine ⟨_, rfl, _, R2[i], rfl, mono_mr.up (s1D.trans s3) hr', by omega, fun u H4 r' s4 hr4 rl' rp => ?_⟩
    refine ⟨s3.trans s4, R3 ++ [r'], by rw [List.length_append, l3]; rfl, L2.Paired.app (paired_mono mono_mr s4 p3) (.cons hr4 .nil), fun r hr => ?_⟩
    rcases List.mem_append.mp hr with z | z
    · exact g3 r z
    · rw [List.mem_singleton.mp z]
      refine ⟨?_, fun p hp => ?_⟩
      · rw [rl', hmu]
        by_cases c : m < 8
        · rw [if_pos c, if_pos (by omega)]; omega
        · rw [if_neg c, if_neg (by omega)]
      · rcases rp p hp with z | rfl
        · exact rm.2 p z
        · exact ⟨by decide, by show (0 : Int) < n2; omega⟩
  obtain ⟨s3, R3, l3, p3, g3⟩ := h
  rw [ul2] at l3
  have M3 : MI n2 (mu : Int) R3 := ⟨by omega, M2.n6, by omega, by omega, by omega, g3⟩
  have s4 := s3.trans (same_upd hlb (.lst ys))
  have hl4 : rMs (upd H3 lb (.lst ys)) R3 (.ref lb) := ⟨lb, ys, rfl, upd_same, paired_mono mono_mr (same_upd hlb _) p3⟩
  generalize upd H3 lb (.lst ys) = H4 at s4 hl4 ⊢
  refine ⟨_, _, R3, rfl, hl4, by omega, f8 R3 M3.g, fun _ w3 HE sE hw3 => ?_, fun no => absurd (M3.ok (by omega)) no⟩
  have s7E := s7D.trans (s4.trans sE)
  have hw1E := (mono_t2 mono_int mono_ms).up s7E hw1
  have hw2E := (mono_t2 mono_int mono_ms).up s7E hw2
  have na : (mch R1).asks ≠ (mch R3).asks := fun z => by
    have h1 := M1.hd
    have h3 := M3.hd
    have z : (R1.headD []).length = (R3.headD []).length := z
    omega
  refine ⟨_, rfl, _, rfl, _, _, z1, z2, R1, R3, rfl, hw1E, hw3, M1.g, M3.g, by omega, hz1, by omega, na, fun HF sF => ⟨_, rfl, iteF ?_⟩⟩
  refine ⟨_, rfl, _, rfl, _, _, z2, z1, R3, R1, rfl, (mono_t2 mono_int mono_ms).up sF hw3, (mono_t2 mono_int mono_ms).up sF hw1E, M3.g, M1.g, by omega, by omega, hz1, Ne.symm na, fun HG sG => ⟨_, rfl, iteF ?_⟩⟩
  have sEG := sF.trans sG
  have s7G := s7E.trans sEG
  refine ⟨_, rfl, _, rfl, _, _, z1, z2, R1, R2, rfl, (mono_t2 mono_int mono_ms).up s7G hw1, (mono_t2 mono_int mono_ms).up s7G hw2, t.g1, t.g2, t.few, hz1, hz2, fun _ => apq_of fun so' gv HI ans' sI hgv _ _ => ?_, fun no => absurd t.asks no⟩
  obtain rfl := ans.one ans'
  refine ⟨_, rfl, _, _, so, rfl, hgv, hdv.up (s7G.trans sI), fun HJ sJ => ⟨_, rfl, iteT ?_⟩⟩
  have s7J := s7G.trans (sI.trans sJ)
  have s1J := s17.trans s7J
  refine ⟨_, rfl, _, rfl, _, rfl, (by show 2 ≤ sizeLine; decide), fun tt htt => ?_⟩
  have sT := same_upd htt (.tup [V.int (z1 : Int), V.ref a1])
  refine ⟨((z1 : Int), R1), ((z1 : Int), R1), (mono_t2 mono_int mono_ms).up (s7J.trans sT) hw1, ⟨tt, _, _, rfl, upd_same, rfl, mono_ms.up (s1J.trans sT) hv1⟩, _, rfl, ?_⟩
  refine ite2 (fun _ => ?_) (fun z => absurd (decide_eq_true rfl) z)
  refine ⟨_, rfl, _, rfl, _, rfl, (by show 2 ≤ sizeLine; decide), fun tu htu => ?_⟩
  have sU := sT.trans (same_upd htu (.tup [V.int (z2 : Int), V.ref a2]))
  refine ⟨((z2 : Int), R2), ((z2 : Int), R2), (mono_t2 mono_int mono_ms).up (s7J.trans sU) hw2, ⟨tu, _, _, rfl, upd_same, rfl, mono_ms.up (s1J.trans sU) hv2⟩, ?_⟩
  rw [decide_eq_true rfl]
  exact q _
theorem main {f : Addr} {fd : FuncData} (T : Txt mg)
    (XC : XT K mg "GarthError" xRs xNs)
    (A_is_whole : DefAt K mg "is_whole" s_is_whole ["value"])
    (A_is_place : DefAt K mg "is_place" s_is_place ["value", "count"])
    (A_check_machine_row : DefAt K mg "check_machine_row" s_check_machine_row ["row", "asks", "states"])
    (A_check_machine : DefAt K mg "check_machine" s_check_machine ["start", "rows"])
    (A_machine_of : DefAt K mg "machine_of" s_machine_of ["start", "rows"])
    (A_sights : DefAt K mg "sights" s_sights ["row", "table"])
    (A_split_further : DefAt K mg "split_further" s_split_further ["rows", "table"])
    (A_splits : DefAt K mg "splits" s_splits ["rows"])
    (A_first_unlike : DefAt K mg "first_unlike" s_first_unlike ["row", "other", "table"])
    (A_apart_in : DefAt K mg "apart_in" s_apart_in ["rows", "one", "other"])
    (A_rows_moved : DefAt K mg "rows_moved" s_rows_moved ["rows", "by"])
    (A_differ : DefAt K mg "differ" s_differ ["one", "other"])
    (A_least_machine : DefAt K mg "least_machine" s_least_machine ["machine"])
    (A_law_at : DefAt K mg "_law_at" s_law_at ["_law_script", "_law_k"])
    (A_law_whole : DefAt K mg "_law_whole" s_law_whole ["_law_found"])
    (A_law_free : DefAt K mg "_law_free" s_law_free ["_law_script", "_law_states", "_law_asks"])
    (A_law_changed : DefAt K mg "_law_changed" s_law_changed ["_law_script", "_law_base"])
    (A_law_doubled : DefAt K mg "_law_doubled" s_law_doubled ["_law_script", "_law_base", "_law_states", "_law_by"])
    (A_law_first : DefAt K mg "_law_first" s_law_first ["_law_rows", "_law_others", "_law_one", "_law_other"])
    (A_law_is_due : DefAt K mg "_law_is_due" s_law_is_due ["_law_found", "_law_due"])
    (A_law_refused : DefAt K mg "_law_refused" s_law_refused ["_law_one", "_law_other"])
    (A_law_unlike : DefAt K mg "_law_unlike" s_law_unlike ["_law_row"])
    (A_law_made : DefAt K mg "_law_made" s_law_made ["_law_script"])
    (F : Fun K "law" "law" s_law f fd) : FnOk P w K mg base CX0 7 f fd ["_law_script"] (spLaw K) := by
  have wh := ok_is_whole (P := P) (w := w) (base := base) A_is_whole T
  have pl := ok_is_place A_is_place T wh
  have mo := ok_mo A_machine_of T XC (ok_cm A_check_machine T XC pl (ok_rowC A_check_machine_row T XC pl))
  have sg := ok_sights (P := P) (w := w) (base := base) A_sights T
  have sp := ok_splits A_splits T (ok_split A_split_further T sg)
  have df := ok_diff A_differ T XC (ok_apIn A_apart_in T sp (ok_first A_first_unlike T sg)) (ok_moved A_rows_moved T)
  have at_ := ok_at (P := P) (w := w) (base := base) A_law_at T
  exact ok_law F T mo df (ok_least A_least_machine T sp) at_ (ok_made A_law_made T at_ (ok_free A_law_free T at_) (ok_chg A_law_changed T at_) (ok_doub A_law_doubled T at_)) (ok_fst A_law_first T) (ok_due A_law_is_due T (ok_whole A_law_whole T)) (ok_ref A_law_refused T XC df) (ok_un A_law_unlike T)
end
def askedOf := ({ ks := [(.df "is_whole", s_is_whole, none), (.df "is_place", s_is_place, none), (.df "check_machine_row", s_check_machine_row, none), (.df "check_machine", s_check_machine, none), (.df "machine_of", s_machine_of, none), (.df "sights", s_sights, none), (.df "split_further", s_split_further, none), (.df "splits", s_splits, none), (.df "first_unlike", s_first_unlike, none), (.df "apart_in", s_apart_in, none), (.df "rows_moved", s_rows_moved, none), (.df "differ", s_differ, none), (.df "least_machine", s_least_machine, none), (.df "_law_at", s_law_at, none), (.df "_law_whole", s_law_whole, none), (.df "_law_free", s_law_free, none), (.df "_law_changed", s_law_changed, none), (.df "_law_doubled", s_law_doubled, none), (.df "_law_first", s_law_first, none), (.df "_law_is_due", s_law_is_due, none), (.df "_law_refused", s_law_refused, none), (.df "_law_unlike", s_law_unlike, none), (.df "_law_made", s_law_made, none), (.df "law", s_law, none)], cs := [], is := [], ss := [], bs := ["ValueError", "bool", "enumerate", "int", "isinstance", "len", "list", "max", "range", "reversed", "tuple", "zip"], xc := fun K => xcFacts K "GarthError" xRs xNs, ext := fun K => (()), extW := fun w => (()) } : Asked _)
theorem all_mk {P : Program} {w : World} {K : PySem.W.Frag} {h : Heap} {mg : Str → Option Value} {fa : Addr} (e : askedOf.Ok w K) (X : K.In h) (G : h.Ns mainGlobals mg) (hfa : mg "law" = some (.ref fa)) :
    ∃ fd : FuncData, (∀ (s : Shared) (v : Value), BindsTo s fd ⟨[v], []⟩ [("_law_script", v)]) ∧ ∀ base : Heap, K.In base → base.Ns mainGlobals mg → FnOk P w K mg base CX0 7 fa fd ["_law_script"] (spLaw K) := by
  have T : Txt mg := ⟨e.noneAt X G 0 rfl, e.noneAt X G 1 rfl, e.noneAt X G 2 rfl, e.noneAt X G 3 rfl, e.noneAt X G 4 rfl, e.noneAt X G 5 rfl, e.noneAt X G 6 rfl, e.noneAt X G 7 rfl, e.noneAt X G 8 rfl, e.noneAt X G 9 rfl, e.noneAt X G 10 rfl, e.noneAt X G 11 rfl⟩
  have XC := xt_of X G e.exc
  have A0 : DefAt K mg "is_whole" s_is_whole ["value"] := e.defAt X G 0 rfl (fun _ _ _ _ _ _ => L2.arg1 fun _ => rfl)
  have A1 : DefAt K mg "is_place" s_is_place ["value", "count"] := e.defAt X G 1 rfl (fun _ _ _ _ _ _ => L2.arg2 fun _ _ => rfl)
  have A2 : DefAt K mg "check_machine_row" s_check_machine_row ["row", "asks", "states"] := e.defAt X G 2 rfl (fun _ _ _ _ _ _ => L2.arg3 fun _ _ _ => rfl)
  have A3 : DefAt K mg "check_machine" s_check_machine ["start", "rows"] := e.defAt X G 3 rfl (fun _ _ _ _ _ _ => L2.arg2 fun _ _ => rfl)
  have A4 : DefAt K mg "machine_of" s_machine_of ["start", "rows"] := e.defAt X G 4 rfl (fun _ _ _ _ _ _ => L2.arg2 fun _ _ => rfl)
  have A5 : DefAt K mg "sights" s_sights ["row", "table"] := e.defAt X G 5 rfl (fun _ _ _ _ _ _ => L2.arg2 fun _ _ => rfl)
  have A6 : DefAt K mg "split_further" s_split_further ["rows", "table"] := e.defAt X G 6 rfl (fun _ _ _ _ _ _ => L2.arg2 fun _ _ => rfl)
  have A7 : DefAt K mg "splits" s_splits ["rows"] := e.defAt X G 7 rfl (fun _ _ _ _ _ _ => L2.arg1 fun _ => rfl)
  have A8 : DefAt K mg "first_unlike" s_first_unlike ["row", "other", "table"] := e.defAt X G 8 rfl (fun _ _ _ _ _ _ => L2.arg3 fun _ _ _ => rfl)
  have A9 : DefAt K mg "apart_in" s_apart_in ["rows", "one", "other"] := e.defAt X G 9 rfl (fun _ _ _ _ _ _ => L2.arg3 fun _ _ _ => rfl)
  have A10 : DefAt K mg "rows_moved" s_rows_moved ["rows", "by"] := e.defAt X G 10 rfl (fun _ _ _ _ _ _ => L2.arg2 fun _ _ => rfl)
  have A11 : DefAt K mg "differ" s_differ ["one", "other"] := e.defAt X G 11 rfl (fun _ _ _ _ _ _ => L2.arg2 fun _ _ => rfl)
  have A12 : DefAt K mg "least_machine" s_least_machine ["machine"] := e.defAt X G 12 rfl (fun _ _ _ _ _ _ => L2.arg1 fun _ => rfl)
  have A13 : DefAt K mg "_law_at" s_law_at ["_law_script", "_law_k"] := e.defAt X G 13 rfl (fun _ _ _ _ _ _ => L2.arg2 fun _ _ => rfl)
  have A14 : DefAt K mg "_law_whole" s_law_whole ["_law_found"] := e.defAt X G 14 rfl (fun _ _ _ _ _ _ => L2.arg1 fun _ => rfl)
  have A15 : DefAt K mg "_law_free" s_law_free ["_law_script", "_law_states", "_law_asks"] := e.defAt X G 15 rfl (fun _ _ _ _ _ _ => L2.arg3 fun _ _ _ => rfl)
  have A16 : DefAt K mg "_law_changed" s_law_changed ["_law_script", "_law_base"] := e.defAt X G 16 rfl (fun _ _ _ _ _ _ => L2.arg2 fun _ _ => rfl)
  have A17 : DefAt K mg "_law_doubled" s_law_doubled ["_law_script", "_law_base", "_law_states", "_law_by"] := e.defAt X G 17 rfl (fun _ _ _ _ _ _ => L2.arg4 fun _ _ _ _ => rfl)
  have A18 : DefAt K mg "_law_first" s_law_first ["_law_rows", "_law_others", "_law_one", "_law_other"] := e.defAt X G 18 rfl (fun _ _ _ _ _ _ => L2.arg4 fun _ _ _ _ => rfl)
  have A19 : DefAt K mg "_law_is_due" s_law_is_due ["_law_found", "_law_due"] := e.defAt X G 19 rfl (fun _ _ _ _ _ _ => L2.arg2 fun _ _ => rfl)
  have A20 : DefAt K mg "_law_refused" s_law_refused ["_law_one", "_law_other"] := e.defAt X G 20 rfl (fun _ _ _ _ _ _ => L2.arg2 fun _ _ => rfl)
  have A21 : DefAt K mg "_law_unlike" s_law_unlike ["_law_row"] := e.defAt X G 21 rfl (fun _ _ _ _ _ _ => L2.arg1 fun _ => rfl)
  have A22 : DefAt K mg "_law_made" s_law_made ["_law_script"] := e.defAt X G 22 rfl (fun _ _ _ _ _ _ => L2.arg1 fun _ => rfl)
  obtain ⟨kV, doc, pm, an, cdv, ct, FL⟩ := e.law X G 23 rfl hfa
  exact ⟨_, fun s v => .of_eq rfl, fun base _ _ => main (P := P) (w := w) (base := base) T XC A0 A1 A2 A3 A4 A5 A6 A7 A8 A9 A10 A11 A12 A13 A14 A15 A16 A17 A18 A19 A20 A21 A22 FL⟩
def asL : List Nat := [0, 1, 2, 3, 4, 5, 6, 7, 8, 9, 10, 11, 12, 13, 14, 15, 22, 23, 24, 25, 28, 35, 36, 37, 40, 47, 48, 49, 52, 53, 54, 55, 56, 57, 58, 59, 60, 61, 62, 63, 64, 65, 66, 67, 68, 69, 70, 71, 72, 73, 74, 75, 76, 77, 78, 79, 80, 81, 82, 83, 84, 85, 86, 87, 88, 89, 90, 91, 92, 93, 94, 95, 96, 97, 98, 99, 100, 101, 102, 103, 104, 105, 106, 107, 108, 109, 110, 111, 112, 113, 114, 115, 116, 117, 118, 119, 120, 121, 122, 123, 124, 125, 126, 127, 128, 129, 130, 131, 132, 133, 134, 135, 136, 137, 138, 139, 140, 141, 142, 143, 144, 145, 146, 147, 148, 149, 150, 151, 152, 153, 154, 155, 156, 157, 158, 159, 160, 161, 162, 163, 164, 165, 166, 167, 168, 169, 170, 171, 172, 173, 174, 175, 176, 177, 178, 179, 180, 181, 182, 183, 184, 185, 186, 187, 188, 189, 190, 191, 192, 193, 194, 195, 196, 197, 198, 199, 200, 201, 202, 203, 204, 205]
def qV : Program := PySem.W.view PySem.Challenge.pw_rankgarth_k52_two_machines [30]
def loV : List Str := (PySem.Challenge.pw_rankgarth_k52_two_machines.main.scope.names.map (·.1)).filter fun x => !(x == "law")
def xtV (s : Shared) : Bool := PySem.W.xlAt qV [] s && PySem.W.recOk (PySem.W.RowW.records PySem.Challenge.rw_rankgarth_k52_two_machines.row.toRowW) s
def dL : PySem.DefRec := ⟨"law", defArgs s_law, defBody s_law, defScope s_law, posOf s_law⟩
set_option maxHeartbeats 0
theorem head_open : PySem.W.opening PySem.Challenge.pw_rankgarth_k52_two_machines = PySem.W.plainProg PySem.Challenge.pw_rankgarth_k52_two_machines.main.scope.names := by kernel_rfl
theorem head_run (w : World) (os : OsState) : (topRunQ PySem.Challenge.pw_rankgarth_k52_two_machines w 11 (some (.ref 6)) 2900 ⟨boot_tree w.params, 11, {}, Array.mk [], PySem.W.boot_drawn, PySem.W.boot_toks, os⟩ (PySem.W.topStub PySem.Challenge.pw_rankgarth_k52_two_machines)).map (fun r => topLook PySem.Challenge.pw_rankgarth_k52_two_machines qV loV xtV true (fun s => askedOf.look (partOf asL s.heap)) (PySem.W.boot_heap w.params) r.abs) = some (true, PySem.W.openGood qV loV, askedOf.want w) := by kernel_rfl
theorem head_left : PySem.W.LeftO PySem.Challenge.rw_rankgarth_k52_two_machines.row.prog qV loV xtV (fun s => askedOf.look (partOf asL s.heap)) (fun w => askedOf.want w) 2900 :=
  left_tree (p := PySem.Challenge.pw_rankgarth_k52_two_machines) (H₀ := PySem.W.boot_heap) (gs₀ := Array.mk []) (d₀ := PySem.W.boot_drawn) (k₀ := PySem.W.boot_toks) (m₀ := 11) (ann := some (.ref 6)) (M := 2900) (T₀ := boot_tree) (n₀ := 11) (life := {}) (PySem.W.boot_open head_open (by decide +kernel) fun s => by kernel_rfl) (fun w => by kernel_rfl) (fun P => by kernel_rfl) head_run (by decide +kernel)
end Law
open PySem PySem.W PyProof.Rows
set_option maxRecDepth 100000 in
set_option maxHeartbeats 0 in
theorem PySem.Challenge.cw_rankgarth_k52_two_machines_holds : PySem.Challenge.rw_rankgarth_k52_two_machines.Holds := by
  refine PySem.W.holds_law (by kernel_rfl) fun said => ?_
  refine PySem.W.holds_open (q := Law.qV) (loose := Law.loV) (Xt := Law.xtV) (XP := XL Law.qV []) (YP := fun w h => ∃ K : Frag, K.In h ∧ Law.askedOf.Ok w K) (d := Law.dL) (kwd := []) Law.head_left (fun w s e => ⟨_, L2.partOf_in _ _, e⟩) (fun w h h' y k => y.elim fun K z => ⟨K, z.1.keeps k, z.2⟩) (fun s e => xl_of s (Bool.and_eq_true_iff.mp e).1) XL.keeps (by kernel_rfl) (by kernel_rfl) (by kernel_rfl) (fun s e => recFacts_of (Bool.and_eq_true_iff.mp e).2) (by kernel_rfl) said (by kernel_rfl) ⟨rfl, rfl, rfl, rfl, rfl, by decide +kernel⟩ ?hw ?hc
  case hw => w_witness2
  case hc => exact L2.walk_ex (l := PySem.Challenge.rw_rankgarth_k52_two_machines) (n := 63) (k := 7) (x := "_law_script") (nm := "law") (sp := Law.spLaw) rfl (by decide) (by kernel_rfl) ⟨rfl, by decide, by decide⟩ (by kernel_rfl) (fun w K mg fa h e X G hm => Law.all_mk e X G hm) (fun _ _ a ns hl _ hS => ⟨a, ns, rfl, hS, hl, fun _ => rfl⟩) fun _ _ _ _ z => z
