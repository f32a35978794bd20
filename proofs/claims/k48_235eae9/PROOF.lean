import PyProof.Rows.All
import Wide.All
import OpenK.AllK
import Wide.FinOn
import Lean
import PyProof.EqAt
import PyProof.EqKinds
import PyProof.TupleCall
import PyProof.NeKinds
import KE.KDictSum
import PyProof.Rows.SetFrom
import KE.KSortTup
import PySem.Challenge.RW_rankgarth_k48_refused_machines
set_option Elab.async false
set_option linter.all false
set_option maxRecDepth 100000
namespace L2
open PySem PySem.Spec PyProof.Rows
abbrev Key := Sum Int Str
def keyIs : Key → Value → Bool
  | .inl k, v => Value.isInt k v
  | .inr x, v => Value.isStrOf x v
def keyH (w : World) : Key → Int
  | .inl k => hashInt k
  | .inr x => hashStr w x
theorem keyIs_shape : ∀ {k : Key} {v : Value}, keyIs k v = true → (∃ i t, k = Sum.inl i ∧ v = Value.int i t) ∨ (∃ x t, k = Sum.inr x ∧ v = Value.str x t)
  | .inl i, v, h => by
    obtain ⟨t, e⟩ := Value.isInt_shape (k := i) (v := v) h
    exact .inl ⟨i, t, rfl, e⟩
  | .inr x, v, h => by
    obtain ⟨t, e⟩ := Value.isStrOf_shape (x := x) (v := v) h
    exact .inr ⟨x, t, rfl, e⟩
theorem key_ll (a b : Int) : decide ((Sum.inl a : Key) = Sum.inl b) = (a == b) := by
  by_cases e : a = b
  · subst e; simp
  · have h : ¬ (Sum.inl a : Key) = Sum.inl b := fun q => e (Sum.inl.inj q)
    rw [decide_eq_false h]
    exact (beq_eq_false_iff_ne.mpr e).symm
theorem key_rr (a b : Str) : decide ((Sum.inr a : Key) = Sum.inr b) = decide (a = b) := by
  by_cases e : a = b
  · subst e; simp
  · have h : ¬ (Sum.inr a : Key) = Sum.inr b := fun q => e (Sum.inr.inj q)
    rw [decide_eq_false h, decide_eq_false e]
theorem key_lr (a : Int) (b : Str) : decide ((Sum.inl a : Key) = Sum.inr b) = false := decide_eq_false (fun q => nomatch q)
theorem key_rl (a : Str) (b : Int) : decide ((Sum.inr a : Key) = Sum.inl b) = false := decide_eq_false (fun q => nomatch q)
def mixKind (prog : Program) (w : World) : PySem.KeyKind prog w Key where
  is := keyIs
  hash := keyH w
  inj := fun v a b ha hb => by
    rcases keyIs_shape ha with ⟨i, t, rfl, rfl⟩ | ⟨x, t, rfl, rfl⟩
    · rcases keyIs_shape hb with ⟨j, u, rfl, e⟩ | ⟨y, u, rfl, e⟩
      · injection e with e1 _; rw [e1]
      · exact nomatch e
    · rcases keyIs_shape hb with ⟨j, u, rfl, e⟩ | ⟨y, u, rfl, e⟩
      · exact nomatch e
      · injection e with e1 _; rw [e1]
  byValue := fun k v h => by
    rcases keyIs_shape h with ⟨i, t, rfl, rfl⟩ | ⟨x, t, rfl, rfl⟩ <;> rfl
  pyHash := fun hv h => by
    rcases keyIs_shape hv with ⟨i, t, rfl, rfl⟩ | ⟨x, t, rfl, rfl⟩
    · exact wpAny_pyHash_int h
    · exact wpAny_pyHash_str h
  eqBool := fun hu hv h => by
    rcases keyIs_shape hu with ⟨i, t, rfl, rfl⟩ | ⟨x, t, rfl, rfl⟩
    · rcases keyIs_shape hv with ⟨j, u, rfl, rfl⟩ | ⟨y, u, rfl, rfl⟩
      · rw [key_ll] at h; exact wpAny_eqBool_int h
      · rw [key_lr] at h; exact SeqAt.EqAt.int_str i t y u _ _ _ _ h
    · rcases keyIs_shape hv with ⟨j, u, rfl, rfl⟩ | ⟨y, u, rfl, rfl⟩
      · rw [key_rl] at h; exact SeqAt.EqAt.str_int x t j u _ _ _ _ h
      · rw [key_rr] at h; exact wpAny_eqBool_str h
  «strs» := fun k x t v h => by
    rcases keyIs_shape h with ⟨i, u, rfl, e⟩ | ⟨y, u, rfl, e⟩
    · exact nomatch e
    · injection e with e1 _
      subst e1
      cases v <;> rfl
end L2
namespace L2
open PySem PySem.Spec PyProof.Rows
inductive V where
  | non | bl (b : Bool) | int (i : Int) | str (x : Str) | byt (b : Array UInt8) | flt (b : UInt64) | ref (a : Addr) | ty (n : String)
  deriving DecidableEq
def RelV : V → Value → Prop
  | .non, u => u = Value.none
  | .bl b, u => u = Value.bool b
  | .int i, u => ∃ t, u = Value.int i t
  | .str x, u => ∃ t, u = Value.str x t
  | .byt b, u => ∃ t, u = Value.bytes b t
  | .flt b, u => ∃ t, u = Value.float b t
  | .ref a, u => u = Value.ref a
  | .ty n, u => u = Value.type n
abbrev Vals : List V → List Value → Prop := Paired RelV
theorem Vals.length {xs : List V} {us : List Value} (r : Vals xs us) : xs.length = us.length := Paired.length r
theorem Vals.get : ∀ {xs : List V} {us : List Value} {i : Nat} {x : V}, Vals xs us → xs[i]? = some x → ∃ u, us[i]? = some u ∧ RelV x u
  | _, _, _, _, .nil, e => by simp at e
  | _, _, 0, _, .cons r _, e => by simp at e; subst e; exact ⟨_, rfl, r⟩
  | _, _, i + 1, x, .cons _ t, e => by
    obtain ⟨u, h1, h2⟩ := Vals.get (i := i) (x := x) t (by simpa using e)
    exact ⟨u, by simpa using h1, h2⟩
theorem Vals.set {x : V} {u : Value} (r : RelV x u) : ∀ {xs : List V} {us : List Value} (i : Nat), Vals xs us → Vals (xs.set i x) (us.set i u)
  | _, _, _, .nil => .nil
  | _, _, 0, .cons _ t => .cons r t
  | _, _, i + 1, .cons q t => .cons q (Vals.set r i t)
theorem Vals.append : ∀ {xs ys : List V} {us ws : List Value}, Vals xs us → Vals ys ws → Vals (xs ++ ys) (us ++ ws)
  | _, _, _, _, .nil, s => s
  | _, _, _, _, .cons r t, s => .cons r (Vals.append t s)
theorem Vals.take : ∀ {xs : List V} {us : List Value} (n : Nat), Vals xs us → Vals (xs.take n) (us.take n)
  | _, _, 0, _ => .nil
  | _, _, _ + 1, .nil => .nil
  | _, _, n + 1, .cons r t => .cons r (Vals.take n t)
theorem Vals.drop : ∀ {xs : List V} {us : List Value} (n : Nat), Vals xs us → Vals (xs.drop n) (us.drop n)
  | _, _, 0, r => r
  | _, _, _ + 1, .nil => .nil
  | _, _, n + 1, .cons _ t => Vals.drop n t
def RelO : Option V → Option Value → Prop
  | some v, some u => RelV v u
  | none, none => True
  | _, _ => False
def KV {κ : Type} : List (κ × V) → List (κ × Value) → Prop := Paired fun (p : κ × V) (q : κ × Value) => p.1 = q.1 ∧ RelV p.2 q.2
def kV : Key → V
  | .inl i => .int i
  | .inr x => .str x
inductive HO where
    | lst (xs : List V)
    | tup (xs : List V)
    | dK (kvs : List (Key × V)) | dT (kvs : List (List Key × V))
    | set (S : Int → Bool) (n : Nat)
    | ins (C dx : Addr) (fs : List (Str × V))
    | own (x : Addr)
    | xd (fs : List (Str × V))
    | met (f x : Addr)
    | rng (lo hi : Int)
    | frz (o : Obj) (u : HO)
    | tbl (ps : Array Value)
    | ext (φ : Heap → Prop)
abbrev Hp := Addr → Option HO
def upd (H : Hp) (a : Addr) (o : HO) : Hp := fun b => if b = a then some o else H b
theorem upd_same {H : Hp} {a : Addr} {o : HO} : upd H a o a = some o := by unfold upd; rw [if_pos rfl]
theorem upd_ne {H : Hp} {a b : Addr} {o : HO} (h : b ≠ a) : upd H a o b = H b := by unfold upd; rw [if_neg h]
theorem ne_of_none {H : Hp} {a b : Addr} {o : HO} (h : H a = some o) (h' : H b = none) : a ≠ b := by
  intro e; subst e; rw [h] at h'; cases h'
section
variable (P : Program) (w : World)
def ObjOk (H : Hp) (h : Heap) (a : Addr) : HO → Prop
  | .lst xs => xs.length ≤ sizeLine ∧ ∃ (its : List Value) (n : Nat), Vals xs its ∧ h.get? a = some { cls := .type "list", data := .seq its.toArray n }
  | .tup xs => xs.length ≤ sizeLine ∧ ∃ its : List Value, Vals xs its ∧ IsTup h a its.toArray
  | .dK kvs => kvs.length ≤ sizeLine ∧ (a == sysModules) = false ∧ ∃ vs, KV kvs vs ∧ h.DictOf (mixKind P w) a vs
  | .dT kvs => kvs.length ≤ sizeLine ∧ (a == sysModules) = false ∧ ∃ xs : List (List Key × Addr × Value),
      Paired (fun (p : List Key × V) (q : List Key × Addr × Value) => p.1 = q.1 ∧ H q.2.1 = some (.tup (p.1.map kV)) ∧ RelV p.2 q.2.2) kvs xs ∧
      ∃ o es ep, h.get? a = some o ∧ o.ExactDict ∧ o.data = .dict es ep ∧ es.toList = xs.map (entryOfKey (tupleKind (mixKind P w))) ∧ (xs.map (·.1)).Nodup
  | .set S n => h.SetOf (intKind P w) a S n
  | .ins C dx fs => H dx = some (.own a) ∧ fs.length ≤ 1000 ∧ dx ≠ a ∧ h.get? a = some (PySem.W.instObj C dx) ∧
      ∃ mA, h.Ns1 dx mA ∧ (∀ f, RelO (fs.lookup f) (mA f)) ∧ PySem.Within mA (fs.map (·.1))
  | .own _ => ∃ o, h.get? a = some o
  | .xd fs => ∃ mA, h.Ns1 a mA ∧ ∀ f, RelO (fs.lookup f) (mA f)
  | .rng lo hi => ∃ t u v, h.get? a = some { cls := .type "range", data := .fields #[.int lo t, .int hi u, .int 1 v] }
  | .frz o u => h.get? a = some o ∧ ObjOk H h a u
  | .tbl ps => h.get? a = some { cls := .none, data := .fields ps }
  | .met f x => h.get? a = some (PySem.W.methodObj (.ref f) (.ref x))
  | .ext φ => φ h ∧ (∃ o, h.get? a = some o) ∧ ∀ h1 h2 : Heap, φ h1 → (∀ o, h1.get? a = some o → h2.get? a = some o) → φ h2
def HOk (H : Hp) (h : Heap) : Prop := ∀ a o, H a = some o → ObjOk P w H h a o
end
section
variable {P : Program} {w : World} {H H' : Hp} {h h' : Heap} {a : Addr} {o : HO}
theorem ObjOk.lt (x : ObjOk P w H h a o) : a < h.objs.size := by
  cases o with
  | lst xs => obtain ⟨_, _, _, _, e⟩ := x; exact Heap.lt_size e
  | tup xs => obtain ⟨_, _, _, p⟩ := x; exact p.lt
  | dK kvs => obtain ⟨_, _, _, _, o, _, _, e, _⟩ := x; exact Heap.lt_size e
  | dT kvs => obtain ⟨_, _, _, _, o, _, _, e, _⟩ := x; exact Heap.lt_size e
  | set S n => obtain ⟨o, _, _, _, e, _⟩ := x; exact Heap.lt_size e
  | ins C dx fs => obtain ⟨_, _, _, e, _⟩ := x; exact Heap.lt_size e
  | own y => obtain ⟨_, e⟩ := x; exact Heap.lt_size e
  | xd fs => obtain ⟨_, ⟨_, _, _, e, _⟩, _⟩ := x; exact Heap.lt_size e
  | rng lo hi => obtain ⟨_, _, _, e⟩ := x; exact Heap.lt_size e
  | frz ob u => obtain ⟨e, _⟩ := x; exact Heap.lt_size e
  | tbl ps => exact Heap.lt_size (show h.get? a = some _ from x)
  | met f y => exact Heap.lt_size (show h.get? a = some _ from x)
  | ext φ => obtain ⟨_, ⟨_, e⟩, _⟩ := x; exact Heap.lt_size e
theorem Paired.mapP {α β : Type} {F G : α → β → Prop} : ∀ {l₁ : List α} {l₂ : List β}, Paired F l₁ l₂ → (∀ a b, F a b → G a b) → Paired G l₁ l₂
  | _, _, .nil, _ => .nil
  | _, _, .cons r t, f => .cons (f _ _ r) (Paired.mapP t f)
theorem Paired.imp' {α β : Type} {F G : α → β → Prop} (f : ∀ a b, F a b → G a b) {l₁ : List α} {l₂ : List β} (r : Paired F l₁ l₂) : Paired G l₁ l₂ := Paired.mapP r f
theorem ObjOk.stay (x : ObjOk P w H h a o) (k : ∀ b u, (b = a ∨ H b = some (.own a)) → h.get? b = some u → h'.get? b = some u)
    (ho : ∀ b, H b = some (.own a) → H' b = some (.own a)) (ht : ∀ b xs, H b = some (.tup xs) → H' b = some (.tup xs)) : ObjOk P w H' h' a o := by
  induction o with
  | lst xs => obtain ⟨z, its, n, r, e⟩ := x; exact ⟨z, its, n, r, k _ _ (.inl rfl) e⟩
  | tup xs => obtain ⟨z, its, r, ob, e, c⟩ := x; exact ⟨z, its, r, ob, k _ _ (.inl rfl) e, c⟩
  | dK kvs => obtain ⟨z, y, vs, r, ob, es, ep, e, c⟩ := x; exact ⟨z, y, vs, r, ob, es, ep, k _ _ (.inl rfl) e, c⟩
  | dT kvs =>
    obtain ⟨z, y, xs, r, ob, es, ep, e, c⟩ := x
    exact ⟨z, y, xs, Paired.mapP r fun p q z => ⟨z.1, ht _ _ z.2.1, z.2.2⟩, ob, es, ep, k _ _ (.inl rfl) e, c⟩
  | set S n => obtain ⟨ob, es, ep, t, e, c⟩ := x; exact ⟨ob, es, ep, t, k _ _ (.inl rfl) e, c⟩
  | ins C dx fs =>
    obtain ⟨d, z, ne, e, mA, ⟨od, es, ep, e2, c⟩, r⟩ := x
    exact ⟨ho _ d, z, ne, k _ _ (.inl rfl) e, mA, ⟨od, es, ep, k _ _ (.inr d) e2, c⟩, r⟩
  | own y => obtain ⟨ob, e⟩ := x; exact ⟨ob, k _ _ (.inl rfl) e⟩
  | xd fs => obtain ⟨mA, ⟨od, es, ep, e, c⟩, r⟩ := x; exact ⟨mA, ⟨od, es, ep, k _ _ (.inl rfl) e, c⟩, r⟩
  | rng lo hi => obtain ⟨t, u, v, e⟩ := x; exact ⟨t, u, v, k _ _ (.inl rfl) e⟩
  | frz ob u ih => obtain ⟨e, q⟩ := x; exact ⟨k _ _ (.inl rfl) e, ih q⟩
  | tbl ps =>
    have e : h.get? a = some { cls := .none, data := .fields ps } := x
    show h'.get? a = some { cls := .none, data := .fields ps }
    exact k a _ (.inl rfl) e
  | met f y =>
    have e : h.get? a = some (PySem.W.methodObj (.ref f) (.ref y)) := x
    show h'.get? a = some (PySem.W.methodObj (.ref f) (.ref y))
    exact k a _ (.inl rfl) e
  | ext φ => obtain ⟨p, ⟨o, e⟩, st⟩ := x; exact ⟨st _ _ p fun o q => k _ _ (.inl rfl) q, ⟨o, k _ _ (.inl rfl) e⟩, st⟩
theorem HOk.lt (x : HOk P w H h) (e : H a = some o) : a < h.objs.size := (x a o e).lt
theorem HOk.fresh (x : HOk P w H h) (e : h.objs.size ≤ a) : H a = none := by
  cases q : H a with
  | none => rfl
  | some u => exact absurd (Nat.lt_of_lt_of_le (x.lt q) e) (Nat.lt_irrefl _)
theorem HOk.kept (x : HOk P w H h) (k : ∀ b u, h.get? b = some u → h'.get? b = some u) : HOk P w H h' := fun a o e =>
  (x a o e).stay (fun b u _ q => k b u q) (fun _ q => q) fun _ _ q => q
theorem HOk.laid (x : HOk P w H h) (k : ∀ b u, h.get? b = some u → h'.get? b = some u) (hp : h.objs.size ≤ a) (new : ObjOk P w (upd H a o) h' a o) : HOk P w (upd H a o) h' := fun b u e => by
  have hn := x.fresh hp
  by_cases hb : b = a
  · subst hb; rw [upd_same] at e; cases e; exact new
  · rw [upd_ne hb] at e
    exact (x b u e).stay (fun c v _ q => k c v q) (fun c q => by rw [upd_ne (ne_of_none q hn)]; exact q) fun c xs q => by rw [upd_ne (ne_of_none q hn)]; exact q
end
def Rd (H : Hp) (a : Addr) (u : HO) : Prop := H a = some u ∨ ∃ o, H a = some (.frz o u)
theorem Rd.ok {P : Program} {w : World} {H : Hp} {h : Heap} {a : Addr} {u : HO} (r : Rd H a u) (x : HOk P w H h) : ObjOk P w H h a u := by
  rcases r with r | ⟨o, r⟩
  · exact x a u r
  · obtain ⟨_, q⟩ := x a _ r
    exact q
def Mut : Option HO → Prop
  | some (.lst _) => True
  | some (.dK _) => True
  | some (.dT _) => True
  | some (.set _ _) => True
  | some (.ins _ _ _) => True
  | some (.ext _) => True
  | _ => False
section
variable {P : Program} {w : World} {H : Hp} {h h' : Heap} {x e : Addr} {o' : HO}
theorem HOk.write (ok : HOk P w H h) (mu : Mut (H x)) (he : e = x ∨ H e = some (.own x)) (k : ∀ b u, b ≠ e → h.get? b = some u → h'.get? b = some u) (heo : ∃ u, h'.get? e = some u)
    (new : ObjOk P w (upd H x o') h' x o') : HOk P w (upd H x o') h' := fun b u q => by
  have nown : ∀ c y, H c = some (.own y) → c ≠ x := fun c y r z => by subst z; rw [r] at mu; exact mu
  have ntup : ∀ c xs, H c = some (.tup xs) → c ≠ x := fun c xs r z => by subst z; rw [r] at mu; exact mu
  by_cases hb : b = x
  · subst hb; rw [upd_same] at q; cases q; exact new
  · rw [upd_ne hb] at q
    by_cases hbe : b = e
    · have q' : H b = some (.own x) := by
        rcases he with z | z
        · exact absurd (hbe.trans z) hb
        · rw [hbe]; exact z
      rw [q] at q'; cases q'
      obtain ⟨v, hv⟩ := heo
      exact ⟨v, by rw [hbe]; exact hv⟩
    · refine (ok b u q).stay (fun c v hc r => k c v ?_ r) (fun c r => by rw [upd_ne (nown c b r)]; exact r) fun c xs r => by rw [upd_ne (ntup c xs r)]; exact r
      rcases hc with rfl | hc
      · exact hbe
      · rintro rfl
        rcases he with z | z
        · exact nown c b hc z
        · rw [hc] at z; cases z; exact hb rfl
end
structure Un (fs ex : List Addr) (H H' : Hp) (h h' : Heap) : Prop where
  keep : ∀ b o, h.get? b = some o → H b = none → b ∉ fs → b ∉ ex → h'.get? b = some o
  slot : ∀ b o, h.get? b = some o → H b = none → b ∈ fs → b ∉ ex → ∃ sl, h'.get? b = some { o with slots := sl }
  free : ∀ b o, h.get? b = some o → H b = none → b ∉ ex → H' b = none
  there : ∀ b o, h.get? b = some o → b ∉ ex → ∃ o', h'.get? b = some o'
  tups : ∀ b xs, H b = some (.tup xs) → H' b = some (.tup xs)
  frzs : ∀ b o u, H b = some (.frz o u) → H' b = some (.frz o u)
  tbls : ∀ b ps, H b = some (.tbl ps) → ∃ more, H' b = some (.tbl (ps ++ more))
section
variable {fs fs' ex ex' : List Addr} {H H1 H2 : Hp} {h h1 h2 h' : Heap} {a x e : Addr} {o : HO}
theorem Un.any (u : Un fs ex H H1 h h1) {b : Addr} {ob : Obj} (q : h.get? b = some ob) (n : H b = none) (hx : b ∉ ex) : ∃ sl, h1.get? b = some { ob with slots := sl } := by
  by_cases hb : b ∈ fs
  · exact u.slot b ob q n hb hx
  · exact ⟨ob.slots, u.keep b ob q n hb hx⟩
theorem Un.kept (k : ∀ b u, h.get? b = some u → h'.get? b = some u) : Un fs ex H H h h' :=
  ⟨fun b ob q _ _ _ => k b ob q, fun b ob q _ _ _ => ⟨ob.slots, k b ob q⟩, fun _ _ _ n _ => n, fun b ob q _ => ⟨ob, k b ob q⟩, fun _ _ q => q, fun _ _ _ q => q, fun _ ps q => ⟨#[], by rw [q]; simp⟩⟩
theorem Un.refl : Un fs ex H H h h := Un.kept fun _ _ q => q
theorem Un.laid (k : ∀ b u, h.get? b = some u → h'.get? b = some u) (hp : h.objs.size ≤ a) (hn : H a = none) : Un fs ex H (upd H a o) h h' where
  keep := fun b u q _ _ _ => k b u q
  slot := fun b u q _ _ _ => ⟨u.slots, k b u q⟩
  free := fun b u q n _ => by rw [upd_ne (Nat.ne_of_lt (Nat.lt_of_lt_of_le (Heap.lt_size q) hp))]; exact n
  there := fun b u q _ => ⟨u, k b u q⟩
  tups := fun b xs q => by rw [upd_ne (ne_of_none q hn)]; exact q
  frzs := fun b u xs q => by rw [upd_ne (ne_of_none q hn)]; exact q
  tbls := fun b ps q => ⟨#[], by rw [upd_ne (ne_of_none q hn), q]; simp⟩
theorem Un.write (mu : Mut (H x)) (he : e = x ∨ H e = some (.own x)) (k : ∀ b u, b ≠ e → h.get? b = some u → h'.get? b = some u) (heo : ∃ u, h'.get? e = some u) : Un fs ex H (upd H x o) h h' := by
  have hx : ∀ b, H b = none → b ≠ x := fun b n z => by subst z; rw [n] at mu; exact mu
  have hb : ∀ b, H b = none → b ≠ e := fun b n z => by
    subst z
    rcases he with r | r
    · exact hx b n r
    · rw [n] at r; cases r
  have hm : ∀ b u, H b = some u → ¬ Mut (some u) → b ≠ x := fun b u q nm z => by subst z; rw [q] at mu; exact nm mu
  refine ⟨fun b u q n _ _ => k b u (hb b n) q, fun b u q n _ _ => ⟨u.slots, k b u (hb b n) q⟩, fun b u q n _ => by rw [upd_ne (hx b n)]; exact n, fun b u q _ => ?_,
    fun b xs q => by rw [upd_ne (hm b _ q fun z => z)]; exact q, fun b u xs q => by rw [upd_ne (hm b _ q fun z => z)]; exact q, fun b ps q => ⟨#[], by rw [upd_ne (hm b _ q fun z => z), q]; simp⟩⟩
  by_cases hbe : b = e
  · subst hbe; exact heo
  · exact ⟨u, k b u hbe q⟩
end
def trk (h : Heap) (H : Hp) : List Addr := (List.range h.objs.size).filter fun a => (H a).isSome
def hidT (h : Heap) (H : Hp) : Heap := PySem.W.hideAll h (trk h H)
theorem hidT_size (h : Heap) (H : Hp) : (hidT h H).objs.size = h.objs.size := PySem.W.hideAll_size _ _
theorem hidT_get {h : Heap} {H : Hp} {b : Addr} {o : Obj} (e : h.get? b = some o) (n : H b = none) : (hidT h H).get? b = some o :=
  PySem.W.hideAll_get _ e fun hm => by
    have q : (H b).isSome = true := (List.mem_filter.mp hm).2
    rw [n] at q; simp at q
theorem of_hidT {h : Heap} {H : Hp} {b : Addr} {o : Obj} (e : (hidT h H).get? b = some o) : h.get? b = some o ∧ H b = none := by
  have e' : h.get? b = some o := PySem.W.of_hideAll (trk h H) e
  refine ⟨e', ?_⟩
  cases q : H b with
  | none => rfl
  | some x =>
    have hm : b ∈ trk h H := List.mem_filter.mpr ⟨List.mem_range.mpr (Heap.lt_size e'), by simp [q]⟩
    have z : (hidT h H).get? b = none := PySem.W.hideAll_none (trk h H) hm
    rw [z] at e; cases e
end L2
namespace L2
open PySem PySem.Spec PyProof.Rows
structure Mod (K : PySem.W.Frag) (mg : Str → Option Value) (base : Heap) : Prop where
  kin : K.In base
  glob : base.Ns mainGlobals mg
  blt : ∃ mb, base.Ns builtinsNs mb ∧ ∀ x : Str, x ≠ "__name__" → mb x = bootBuiltins x
  nolimit : base.NoLimit
structure Cx where
  prog : Program
  w : World
  K : PySem.W.Frag
  mg : Str → Option Value
  base : Heap
  A : Around
  N : List Str
  s₀ : Shared
  H₀ : Hp
  env : Env
  outer : List Env
  stack : List Env
  ex : List Addr
  fn : Str → Bool
  calm : Bool
  pn : List (Addr × Obj)
  xe : Value → Shared → Prop
def frs (l : List Env) : List Addr := l.filterMap (·.frame)
abbrev Cx.fs (X : Cx) : List Addr := frs X.outer
def Vis (sc : Scope) (x : Str) : Prop := sc.names.lookup x = some .local ∨ sc.names.lookup x = some .cell ∨ sc.names.lookup x = some .free
def Loc (sc : Scope) (x : Str) : Prop := sc.names.lookup x = some .local ∨ sc.names.lookup x = some .cell
def Look (env : Env) (h : Heap) (m : Str → Option Value) (x : Str) (u : Value) : Prop :=
  (env.kindOf x = some .local ∧ m x = some u) ∨ ((env.kindOf x = some .cell ∨ env.kindOf x = some .free) ∧ ∃ c, env.cells.lookup x = some c ∧ h.IsCell c (some u))
structure Cx.Ok (X : Cx) : Prop where
  mod : Mod X.K X.mg X.base
  kind : X.env.scope.kind = .function
  glob : X.env.globals = mainGlobals
  blt : X.env.builtins = builtinsNs
  above : X.s₀.heap.objs.size ≤ X.env.locals
  inj : ∀ x y c, X.env.cells.lookup x = some c → X.env.cells.lookup y = some c → x = y
  has : ∀ x, (X.env.kindOf x = some .cell ∨ X.env.kindOf x = some .free) → ∃ c, X.env.cells.lookup x = some c
  cab : ∀ x c, X.fn x = true → X.env.cells.lookup x = some c → X.s₀.heap.objs.size ≤ c
  hd : X.calm = true → X.A.handled = none
  frames : X.A.frames = some X.stack
  stk : X.stack = X.outer ∨ (X.stack = X.env :: X.outer ∧ X.env.frame = some X.env.locals)
  exf : ∀ b ∈ X.ex, b ≠ X.env.locals ∧ ∀ x c, X.env.cells.lookup x = some c → c ≠ b
  bs : ∀ b o, X.base.get? b = some o → X.s₀.heap.get? b = some o ∧ X.H₀ b = none
  bsz : X.base.objs.size ≤ X.s₀.heap.objs.size
  noex : ∀ b o, X.base.get? b = some o → b ∉ X.ex
  exfs : ∀ b ∈ X.ex, b ∉ X.fs
  funs : X.s₀.heap.FunFrames X.base X.outer
  frf : ∀ b ∈ X.fs, X.H₀ b = none
structure Inv (X : Cx) (pins : List (Addr × Obj)) (σ : List (Option V)) (H : Hp) (s : Shared) : Prop where
  ok : X.Ok
  os : s.os = X.s₀.os
  bare : AllBare s.gens
  base : Un X.fs X.ex X.H₀ H X.s₀.heap s.heap
  loc : ∃ m, s.heap.Ns X.env.locals m ∧ ∀ (i : Nat) (x : Str) (v : V), X.N[i]? = some x → σ[i]? = some (some v) → Vis X.env.scope x → ∃ u, RelV v u ∧ Look X.env s.heap m x u
  cell : ∀ x c, X.env.cells.lookup x = some c → ∃ v, s.heap.IsCell c v
  free : H X.env.locals = none
  freeC : ∀ x c, X.env.cells.lookup x = some c → H c = none
  pin : ∀ p ∈ X.pn ++ pins, s.heap.get? p.1 = some p.2 ∧ H p.1 = none ∧ p.1 ≠ X.env.locals ∧ p.1 ∉ X.fs ∧ ∀ v, p.2.data ≠ .cell v
  hok : HOk X.prog X.w H s.heap
  len : σ.length = X.N.length
section
variable {X : Cx} {pins : List (Addr × Obj)} {σ : List (Option V)} {H H' : Hp} {s : Shared} {h' : Heap}
theorem Cx.Ok.nofr (ok : X.Ok) {b : Addr} {o : Obj} (e : X.base.get? b = some o) : b ∉ X.fs := fun hb => by
  have := (ok.funs.mem hb).1
  rw [e] at this; cases this
theorem Inv.bs (I : Inv X pins σ H s) : ∀ b o, X.base.get? b = some o → s.heap.get? b = some o ∧ H b = none := fun b o e =>
  ⟨I.base.keep b o (I.ok.bs b o e).1 (I.ok.bs b o e).2 (I.ok.nofr e) (I.ok.noex b o e), I.base.free b o (I.ok.bs b o e).1 (I.ok.bs b o e).2 (I.ok.noex b o e)⟩
theorem Inv.bk (I : Inv X pins σ H s) : ∀ b o, X.base.get? b = some o → s.heap.get? b = some o := fun b o e => (I.bs b o e).1
theorem Inv.mod (I : Inv X pins σ H s) : Mod X.K X.mg X.base := I.ok.mod
theorem Inv.kIn (I : Inv X pins σ H s) : X.K.In s.heap := I.ok.mod.kin.keeps I.bk
theorem Inv.lt (I : Inv X pins σ H s) : X.env.locals < s.heap.objs.size := let ⟨_, hn, _⟩ := I.loc; hn.lt
theorem Inv.sz (I : Inv X pins σ H s) : X.s₀.heap.objs.size ≤ s.heap.objs.size := Nat.le_trans I.ok.above (Nat.le_of_lt I.lt)
theorem Inv.nofs (I : Inv X pins σ H s) {a : Addr} (h : s.heap.objs.size ≤ a) : a ∉ X.fs := fun hb => by
  obtain ⟨_, o, ho, _⟩ := I.ok.funs.mem hb
  exact absurd (Nat.lt_of_lt_of_le (Heap.lt_size ho) (Nat.le_trans I.sz h)) (Nat.lt_irrefl _)
theorem Inv.cne (I : Inv X pins σ H s) : ∀ x c, X.env.cells.lookup x = some c → c ≠ X.env.locals := fun x c e z => by
  obtain ⟨v, o, ho, hd⟩ := I.cell x c e
  obtain ⟨m, ⟨o', es, ep, ho', hd', _⟩, _⟩ := I.loc
  rw [z, ho'] at ho; cases ho; rw [hd'] at hd; cases hd
theorem Inv.funs (I : Inv X pins σ H s) : s.heap.FunFrames X.base X.outer := by
  have all : ∀ (l : List Env), (∀ b ∈ frs l, b ∈ X.fs) → X.s₀.heap.FunFrames X.base l → s.heap.FunFrames X.base l := by
    intro l
    induction l with
    | nil => intro _ _; trivial
    | cons env r ih =>
      intro hs hl
      obtain ⟨hk, ⟨L, o, hf, hn, ho, hd⟩, hr⟩ := hl
      have hL : L ∈ X.fs := hs L (by unfold frs; rw [List.filterMap_cons, hf]; exact List.mem_cons_self)
      obtain ⟨sl, e⟩ := I.base.slot L o ho (I.ok.frf L hL) hL fun z => I.ok.exfs L z hL
      exact ⟨hk, ⟨L, _, hf, hn, e, hd⟩, ih (fun b hb => hs b (by unfold frs; rw [List.filterMap_cons, hf]; exact List.mem_cons_of_mem _ hb)) hr⟩
  exact all X.outer (fun _ hb => hb) I.ok.funs
theorem Inv.stack (I : Inv X pins σ H s) : s.heap.FunFrames X.base X.stack := by
  rcases I.ok.stk with e | ⟨e, hf⟩
  · rw [e]; exact I.funs
  · rw [e]
    obtain ⟨m, hn, _⟩ := I.loc
    refine .cons (by rw [I.ok.kind]; decide) hf hn ?_ I.funs
    exact Heap.get?_none_of_le (Nat.le_trans I.ok.bsz I.ok.above)
theorem Inv.stkSub (I : Inv X pins σ H s) : ∀ b ∈ frs X.stack, b ∈ X.env.locals :: X.fs := fun b hb => by
  rcases I.ok.stk with e | ⟨e, hf⟩
  · rw [e] at hb; exact List.mem_cons_of_mem _ hb
  · rw [e] at hb
    unfold frs at hb
    rw [List.filterMap_cons, hf] at hb
    exact hb
theorem Inv.stkFree (I : Inv X pins σ H s) : ∀ b ∈ frs X.stack, H b = none := fun b hb => by
  rcases List.mem_cons.mp (I.stkSub b hb) with e | hb
  · rw [e]; exact I.free
  · obtain ⟨_, o, ho, _⟩ := I.ok.funs.mem hb
    exact I.base.free b o ho (I.ok.frf b hb) fun z => I.ok.exfs b z hb
theorem Inv.step {g' : Array GenState} {t' : Nat} {d' : Drawn} {ch : List Addr} (I : Inv X pins σ H s)
    (hch : ∀ b ∈ ch, (b ∈ X.ex ∨ X.s₀.heap.objs.size ≤ b) ∧ b ≠ X.env.locals ∧ (∀ x c, X.env.cells.lookup x = some c → c ≠ b) ∧ ∀ p ∈ X.pn ++ pins, p.1 ≠ b)
    (keep : ∀ b o, b ≠ X.env.locals → b ∉ X.fs → b ∉ ch → s.heap.get? b = some o → H b = none → h'.get? b = some o)
    (slot : ∀ b o, b ≠ X.env.locals → b ∈ X.fs → b ∉ ch → s.heap.get? b = some o → H b = none → ∃ sl, h'.get? b = some { o with slots := sl }) (free : ∀ b o, b ∉ ch → s.heap.get? b = some o → H b = none → H' b = none)
    (there : ∀ b o, b ∉ ch → s.heap.get? b = some o → ∃ o', h'.get? b = some o')
    (tups : ∀ b xs, H b = some (.tup xs) → H' b = some (.tup xs)) (frzs : ∀ b o u, H b = some (.frz o u) → H' b = some (.frz o u)) (tbls : ∀ b ps, H b = some (.tbl ps) → ∃ more, H' b = some (.tbl (ps ++ more)))
    (ns : ∀ m, s.heap.Ns X.env.locals m → h'.Ns X.env.locals m) (hok : HOk X.prog X.w H' h') (hg : AllBare g') :
    Inv X pins σ H' { s with heap := h', gens := g', drawn := d', toks := t' } := by
  have neL : ∀ b o, X.s₀.heap.get? b = some o → b ≠ X.env.locals := fun b o e => Nat.ne_of_lt (Nat.lt_of_lt_of_le (Heap.lt_size e) I.ok.above)
  have neC : ∀ b o, X.s₀.heap.get? b = some o → b ∉ X.ex → b ∉ ch := fun b o e hx hb => by
    rcases (hch b hb).1 with z | z
    · exact hx z
    · exact absurd (Nat.lt_of_lt_of_le (Heap.lt_size e) z) (Nat.lt_irrefl _)
  have cellK : ∀ x c, X.env.cells.lookup x = some c → ∀ v, s.heap.IsCell c v → h'.IsCell c v := fun x c e v ⟨o, ho, hd⟩ => by
    have nch : c ∉ ch := fun z => (hch c z).2.2.1 x c e rfl
    by_cases hc : c ∈ X.fs
    · obtain ⟨sl, q⟩ := slot c o (I.cne x c e) hc nch ho (I.freeC x c e)
      exact ⟨_, q, hd⟩
    · exact ⟨o, keep c o (I.cne x c e) hc nch ho (I.freeC x c e), hd⟩
  refine ⟨I.ok, I.os, hg, ⟨fun b o e n hb hx => ?_, fun b o e n hb hx => ?_, fun b o e n hx => ?_, fun b o e hx => ?_, fun b xs e => tups b xs (I.base.tups b xs e), fun b o xs e => frzs b o xs (I.base.frzs b o xs e), fun b ps e => ?_⟩, ?_, fun x c e => ?_, ?_, fun x c e => ?_, fun p hp => ?_, hok, I.len⟩
  · exact keep b o (neL b o e) hb (neC b o e hx) (I.base.keep b o e n hb hx) (I.base.free b o e n hx)
  · obtain ⟨sl, e1⟩ := I.base.slot b o e n hb hx
    obtain ⟨sl', e2⟩ := slot b _ (neL b o e) hb (neC b o e hx) e1 (I.base.free b o e n hx)
    exact ⟨sl', e2⟩
  · obtain ⟨o', e1⟩ := I.base.there b o e hx
    exact free b o' (neC b o e hx) e1 (I.base.free b o e n hx)
  · obtain ⟨o', e1⟩ := I.base.there b o e hx
    exact there b o' (neC b o e hx) e1
  · obtain ⟨m1, e1⟩ := I.base.tbls b ps e
    obtain ⟨m2, e2⟩ := tbls b _ e1
    exact ⟨m1 ++ m2, by rw [e2, Array.append_assoc]⟩
  · obtain ⟨m, hn, hl⟩ := I.loc
    refine ⟨m, ns m hn, fun i x v e1 e2 e3 => ?_⟩
    obtain ⟨u, r, l⟩ := hl i x v e1 e2 e3
    refine ⟨u, r, ?_⟩
    rcases l with l | ⟨k, c, e, z⟩
    · exact .inl l
    · exact .inr ⟨k, c, e, cellK x c e _ z⟩
  · obtain ⟨v, z⟩ := I.cell x c e
    exact ⟨v, cellK x c e v z⟩
  · obtain ⟨m, ⟨o, _, _, ho, _⟩, _⟩ := I.loc
    exact free _ o (fun z => (hch _ z).2.1 rfl) ho I.free
  · obtain ⟨v, o, ho, hd⟩ := I.cell x c e
    exact free c o (fun z => (hch c z).2.2.1 x c e rfl) ho (I.freeC x c e)
  · obtain ⟨e, n, ne, nf, d⟩ := I.pin p hp
    have nch : p.1 ∉ ch := fun z => (hch p.1 z).2.2.2 p hp rfl
    exact ⟨keep p.1 p.2 ne nf nch e n, free p.1 p.2 nch e n, ne, nf, d⟩
theorem Inv.un {t' : Nat} (I : Inv X pins σ H s) (u : Un X.fs [] H H' s.heap h') (hok : HOk X.prog X.w H' h') : Inv X pins σ H' { s with heap := h', toks := t' } := by
  obtain ⟨m, ⟨o, es, ep, ho, r⟩, _⟩ := id I.loc
  obtain ⟨sl, hL⟩ := u.any ho I.free (by simp)
  exact I.step (g' := s.gens) (d' := s.drawn) (ch := []) (fun _ z => nomatch z) (fun b o _ hb _ e n => u.keep b o e n hb (by simp)) (fun b o _ hb _ e n => u.slot b o e n hb (by simp)) (fun b o _ e n => u.free b o e n (by simp)) (fun b o _ e => u.there b o e (by simp)) u.tups u.frzs u.tbls (fun m' hm => by
    obtain ⟨o', es', ep', ho', r'⟩ := hm
    rw [ho] at ho'; cases ho'
    exact ⟨_, es', ep', hL, r'⟩) hok I.bare
theorem Inv.call {g' : Array GenState} {t' : Nat} {d' : Drawn} {ch : List Addr} (I : Inv X pins σ H s) (u : Un (frs X.stack) ch H H' s.heap h') (hok : HOk X.prog X.w H' h') (hg : AllBare g')
    (hch : ∀ b ∈ ch, (b ∈ X.ex ∨ X.s₀.heap.objs.size ≤ b) ∧ b ≠ X.env.locals ∧ (∀ x c, X.env.cells.lookup x = some c → c ≠ b) ∧ ∀ p ∈ X.pn ++ pins, p.1 ≠ b) :
    Inv X pins σ H' { s with heap := h', gens := g', drawn := d', toks := t' } := by
  obtain ⟨m, ⟨o, es, ep, ho, r⟩, _⟩ := id I.loc
  obtain ⟨sl, hL⟩ := u.any ho I.free fun z => (hch _ z).2.1 rfl
  exact I.step (ch := ch) hch (fun b o hL hb hc e n => u.keep b o e n (fun z => (List.mem_cons.mp (I.stkSub b z)).elim hL hb) hc) (fun b o _ _ hc e n => u.any e n hc) (fun b o hc e n => u.free b o e n hc) (fun b o hc e => u.there b o e hc) u.tups u.frzs u.tbls (fun m' hm => by
    obtain ⟨o', es', ep', ho', r'⟩ := hm
    rw [ho] at ho'; cases ho'
    exact ⟨_, es', ep', hL, r'⟩) hok hg
theorem Inv.turned {t' : Nat} {it : Addr} (I : Inv X pins σ H s) (k : ∀ b o, b ≠ it → s.heap.get? b = some o → h'.get? b = some o) (hn : H it = none) (hL : it ≠ X.env.locals)
    (h1 : it ∈ X.ex ∨ X.s₀.heap.objs.size ≤ it) (h2 : ∀ x c, X.env.cells.lookup x = some c → c ≠ it) (h3 : ∀ p ∈ X.pn ++ pins, p.1 ≠ it) : Inv X pins σ H { s with heap := h', toks := t' } := by
  have nit : ∀ b u, H b = some u → b ≠ it := fun b u e z => by rw [z, hn] at e; cases e
  refine I.step (g' := s.gens) (d' := s.drawn) (ch := [it]) (fun b hb => ?_) (fun b o _ _ hc e _ => k b o (fun z => hc (by simp [z])) e) (fun b o _ _ hc e _ => ⟨o.slots, k b o (fun z => hc (by simp [z])) e⟩) (fun _ _ _ _ n => n)
    (fun b o hc e => ⟨o, k b o (fun z => hc (by simp [z])) e⟩) (fun _ _ e => e) (fun _ _ _ e => e) (fun b ps e => ⟨#[], by rw [e]; simp⟩) (fun m hm => ?_) (fun b u e => ?_) I.bare
  · have e : b = it := by simpa using hb
    subst e
    exact ⟨h1, hL, h2, h3⟩
  · obtain ⟨o, es, ep, ho, r⟩ := hm
    exact ⟨o, es, ep, k _ o (Ne.symm hL) ho, r⟩
  · refine (I.hok b u e).stay (fun c v hc q => k c v ?_ q) (fun _ q => q) fun _ _ q => q
    rcases hc with z | z
    · rw [z]; exact nit b u e
    · exact nit c _ z
theorem Inv.tok (I : Inv X pins σ H s) (t : Nat) : Inv X pins σ H { s with toks := t } := I.un (h' := s.heap) (t' := t) Un.refl I.hok
theorem Inv.kept {t' : Nat} (I : Inv X pins σ H s) (k : ∀ b u, s.heap.get? b = some u → h'.get? b = some u) : Inv X pins σ H { s with heap := h', toks := t' } := I.un (Un.kept k) (I.hok.kept k)
theorem Inv.laid {a : Addr} {o : HO} {t' : Nat} (I : Inv X pins σ H s) (k : ∀ b u, s.heap.get? b = some u → h'.get? b = some u) (hp : s.heap.objs.size ≤ a) (new : ObjOk X.prog X.w (upd H a o) h' a o) :
    Inv X pins σ (upd H a o) { s with heap := h', toks := t' } := I.un (Un.laid k hp (I.hok.fresh hp)) (I.hok.laid k hp new)
theorem Inv.write {x e : Addr} {o : HO} {t' : Nat} (I : Inv X pins σ H s) (mu : Mut (H x)) (he : e = x ∨ H e = some (.own x)) (k : ∀ b u, b ≠ e → s.heap.get? b = some u → h'.get? b = some u) (heo : ∃ u, h'.get? e = some u)
    (new : ObjOk X.prog X.w (upd H x o) h' x o) : Inv X pins σ (upd H x o) { s with heap := h', toks := t' } := I.un (Un.write mu he k heo) (I.hok.write mu he k heo new)
theorem Inv.weak {σ' : List (Option V)} (I : Inv X pins σ H s) (hl : σ'.length = σ.length) (w : ∀ (i : Nat) v, σ'[i]? = some (some v) → σ[i]? = some (some v)) : Inv X pins σ' H s :=
  ⟨I.ok, I.os, I.bare, I.base, let ⟨m, hn, hl'⟩ := I.loc; ⟨m, hn, fun i x v e1 e2 e3 => hl' i x v e1 (w i v e2) e3⟩, I.cell, I.free, I.freeC, I.pin, I.hok, hl.trans I.len⟩
theorem Inv.pins_of {pins' : List (Addr × Obj)} (I : Inv X pins σ H s) (h : ∀ p ∈ pins', s.heap.get? p.1 = some p.2 ∧ H p.1 = none ∧ p.1 ≠ X.env.locals ∧ p.1 ∉ X.fs ∧ ∀ v, p.2.data ≠ .cell v) : Inv X pins' σ H s :=
  ⟨I.ok, I.os, I.bare, I.base, I.loc, I.cell, I.free, I.freeC, fun p hp => (List.mem_append.mp hp).elim (fun z => I.pin p (List.mem_append_left _ z)) (h p), I.hok, I.len⟩
theorem nodup_ix {N : List Str} (hN : N.Nodup) {i j : Nat} {x : Str} (a : N[i]? = some x) (b : N[j]? = some x) : i = j := by
  obtain ⟨h1, e1⟩ := List.getElem?_eq_some_iff.mp a
  obtain ⟨h2, e2⟩ := List.getElem?_eq_some_iff.mp b
  exact (List.getElem_inj hN).mp (e1.trans e2.symm)
theorem store_ok2 {M : Model} {A : Around} {E : Value → Shared → Prop} {i : Nat} {x : Str} {v : V} {u : Value} {Q : Unit → Shared → Prop} (I : Inv X pins σ H s) (hN : X.N.Nodup) (hi : X.N[i]? = some x) (hx : Loc X.env.scope x) (r : RelV v u)
    (h : ∀ s', Inv X pins (σ.set i (some v)) H s' → (∃ a, Heap.SameBut a s.heap s'.heap ∧ (a = X.env.locals ∨ X.env.cells.lookup x = some a)) → Q () s') (hf : X.fn x = true ∨ X.env.scope.names.lookup x = some .local := by first | exact .inl rfl | exact .inr rfl | assumption) : wpAny M A (storeName X.env x u) Q E s := by
  obtain ⟨m, hn, hl⟩ := id I.loc
  have hcls : (X.env.scope.kind == .class || (X.env.scope.kind == .module && X.env.locals != X.env.globals)) = false := by rw [I.ok.kind]; rfl
  have hiσ : i < σ.length := by rw [I.len]; exact (List.getElem?_eq_some_iff.mp hi).1
  have cne := I.cne
  have tracked : ∀ {a : Addr} {h' : Heap}, (∃ o, s.heap.get? a = some o ∧ H a = none) → Heap.SameBut a s.heap h' → HOk X.prog X.w H h' := fun {a h'} ha hs b ob e => by
    obtain ⟨_, _, hfree⟩ := ha
    refine (I.hok b ob e).stay (fun c w' hc q => (hs.2 c ?_).trans q) (fun _ q => q) fun _ _ q => q
    rintro rfl
    rcases hc with rfl | hc
    · rw [hfree] at e; cases e
    · rw [hfree] at hc; cases hc
  rcases hx with hk | hk
  · refine wpAny_storeName_local hk hn (fun h' hn' hs => ?_) hcls
    obtain ⟨oL, _, _, hoL, _⟩ := id hn
    refine h _ ⟨I.ok, I.os, I.bare, ⟨fun b o e n hb hx => ?_, fun b o e n hb hx => ?_, I.base.free, fun b o e hx => ?_, I.base.tups, I.base.frzs, I.base.tbls⟩, ⟨_, hn', fun j y v' e1 e2 e3 => ?_⟩, fun y c e => ?_, I.free, I.freeC, fun p hp => ?_, tracked ⟨oL, hoL, I.free⟩ hs, by simpa using I.len⟩ ⟨_, hs, .inl rfl⟩
    · exact (hs.2 b (Nat.ne_of_lt (Nat.lt_of_lt_of_le (Heap.lt_size e) I.ok.above))).trans (I.base.keep b o e n hb hx)
    · obtain ⟨sl, e1⟩ := I.base.slot b o e n hb hx
      exact ⟨sl, (hs.2 b (Nat.ne_of_lt (Nat.lt_of_lt_of_le (Heap.lt_size e) I.ok.above))).trans e1⟩
    · obtain ⟨o', e1⟩ := I.base.there b o e hx
      exact ⟨o', (hs.2 b (Nat.ne_of_lt (Nat.lt_of_lt_of_le (Heap.lt_size e) I.ok.above))).trans e1⟩
    · by_cases hj : j = i
      · subst hj
        rw [hi] at e1; cases e1
        rw [List.getElem?_set_self hiσ] at e2
        cases e2
        exact ⟨u, r, .inl ⟨hk, by simp⟩⟩
      · rw [List.getElem?_set_ne (Ne.symm hj)] at e2
        obtain ⟨u', r', q⟩ := hl j y v' e1 e2 e3
        refine ⟨u', r', ?_⟩
        rcases q with ⟨k, e⟩ | ⟨k, c, e, z⟩
        · refine .inl ⟨k, ?_⟩
          have : y ≠ x := fun e => hj (nodup_ix hN e1 (e ▸ hi))
          simp [this, e]
        · exact .inr ⟨k, c, e, z.sameBut hs (cne y c e)⟩
    · obtain ⟨w', z⟩ := I.cell y c e
      exact ⟨w', z.sameBut hs (cne y c e)⟩
    · obtain ⟨e, n, ne, nf, d⟩ := I.pin p hp
      exact ⟨(hs.2 p.1 ne).trans e, n, ne, nf, d⟩
  · have hfn : X.fn x = true := by
      rcases hf with z | z
      · exact z
      · rw [z] at hk; cases hk
    obtain ⟨c, hc⟩ := I.ok.has x (.inl hk)
    obtain ⟨w', z⟩ := I.cell x c hc
    refine wpAny_storeName_cell I.ok.kind hk hc z (fun h' hc' hs => ?_)
    obtain ⟨oc, hoc, hocd⟩ := id z
    refine h { s with heap := h' } ⟨I.ok, I.os, I.bare, ⟨fun b o e n hb hx => ?_, fun b o e n hb hx => ?_, I.base.free, fun b o e hx => ?_, I.base.tups, I.base.frzs, I.base.tbls⟩, ⟨m, hn.sameBut hs (Ne.symm (cne x c hc)), fun j y v' e1 e2 e3 => ?_⟩, fun y c' e => ?_, I.free, I.freeC, fun p hp => ?_, tracked ⟨oc, hoc, I.freeC x c hc⟩ hs, by simpa using I.len⟩ ⟨c, hs, .inr hc⟩
    · exact (hs.2 b (Nat.ne_of_lt (Nat.lt_of_lt_of_le (Heap.lt_size e) (I.ok.cab x c hfn hc)))).trans (I.base.keep b o e n hb hx)
    · obtain ⟨sl, e1⟩ := I.base.slot b o e n hb hx
      exact ⟨sl, (hs.2 b (Nat.ne_of_lt (Nat.lt_of_lt_of_le (Heap.lt_size e) (I.ok.cab x c hfn hc)))).trans e1⟩
    · obtain ⟨o', e1⟩ := I.base.there b o e hx
      exact ⟨o', (hs.2 b (Nat.ne_of_lt (Nat.lt_of_lt_of_le (Heap.lt_size e) (I.ok.cab x c hfn hc)))).trans e1⟩
    · by_cases hj : j = i
      · subst hj
        rw [hi] at e1; cases e1
        rw [List.getElem?_set_self hiσ] at e2
        cases e2
        exact ⟨u, r, .inr ⟨.inl hk, c, hc, hc'⟩⟩
      · rw [List.getElem?_set_ne (Ne.symm hj)] at e2
        obtain ⟨u', r', q⟩ := hl j y v' e1 e2 e3
        refine ⟨u', r', ?_⟩
        rcases q with q | ⟨k, c', e, z'⟩
        · exact .inl q
        · refine .inr ⟨k, c', e, z'.sameBut hs ?_⟩
          rintro rfl
          exact hj (nodup_ix hN e1 (I.ok.inj _ _ _ e hc ▸ hi))
    · by_cases hcc : c' = c
      · subst hcc; exact ⟨_, hc'⟩
      · obtain ⟨w2, z2⟩ := I.cell y c' e
        exact ⟨w2, z2.sameBut hs hcc⟩
    · obtain ⟨e, n, ne, nf, d⟩ := I.pin p hp
      refine ⟨(hs.2 p.1 ?_).trans e, n, ne, nf, d⟩
      intro q
      rw [q, hoc] at e
      have q' : oc = p.2 := Option.some.inj e
      exact d w' (by rw [← q']; exact hocd)
theorem store_ok {M : Model} {A : Around} {E : Value → Shared → Prop} {i : Nat} {x : Str} {v : V} {u : Value} {Q : Unit → Shared → Prop} (I : Inv X pins σ H s) (hN : X.N.Nodup) (hi : X.N[i]? = some x) (hx : Loc X.env.scope x) (r : RelV v u)
    (h : ∀ s', Inv X pins (σ.set i (some v)) H s' → Q () s') (hf : X.fn x = true ∨ X.env.scope.names.lookup x = some .local := by first | exact .inl rfl | exact .inr rfl | assumption) : wpAny M A (storeName X.env x u) Q E s :=
  store_ok2 I hN hi hx r (fun s' I' _ => h s' I') hf
theorem Inv.call' {s' : Shared} {ch : List Addr} (I : Inv X pins σ H s) (ho : s'.os = s.os) (u : Un (frs X.stack) ch H H' s.heap s'.heap) (hok : HOk X.prog X.w H' s'.heap) (hg : AllBare s'.gens)
    (hch : ∀ b ∈ ch, (b ∈ X.ex ∨ X.s₀.heap.objs.size ≤ b) ∧ b ≠ X.env.locals ∧ (∀ x c, X.env.cells.lookup x = some c → c ≠ b) ∧ ∀ p ∈ X.pn ++ pins, p.1 ≠ b) : Inv X pins σ H' s' := by
  obtain ⟨h', g', d', t', o'⟩ := s'
  have e : o' = s.os := ho
  subst e
  exact I.call (g' := g') (t' := t') (d' := d') u hok hg hch
end
abbrev XK := Value → Option Addr → Hp → Prop
abbrev St := List (Option V)
abbrev VK := V → Hp → Prop
abbrev TE := St → Hp → VK → Prop
abbrev TT := St → Hp → (Bool → Hp → Prop) → Prop
abbrev TA := St → Hp → (List V → Hp → Prop) → Prop
structure Ends where
  nx : St → Hp → Prop
  rt : VK
  bk : St → Hp → Prop := fun _ _ => False
  ct : St → Hp → Prop := fun _ _ => False
abbrev TS := Ends → St → Hp → Prop
def EP (X : Cx) (pins : List (Addr × Obj)) (σ : St) (Q : VK) (u : Value) (s' : Shared) : Prop := ∃ v H', Inv X pins σ H' s' ∧ RelV v u ∧ Q v H'
def TP (X : Cx) (pins : List (Addr × Obj)) (σ : St) (Q : Bool → Hp → Prop) (b : Bool) (s' : Shared) : Prop := ∃ H', Inv X pins σ H' s' ∧ Q b H'
def AP (X : Cx) (pins : List (Addr × Obj)) (σ : St) (Q : List V → Hp → Prop) (us : List Value) (s' : Shared) : Prop := ∃ vs H', Inv X pins σ H' s' ∧ Vals vs us ∧ Q vs H'
def SP (X : Cx) (pins : List (Addr × Obj)) (D : Ends) (f : Flow) (s' : Shared) : Prop :=
  match f with
  | .next => ∃ σ' H', Inv X pins σ' H' s' ∧ D.nx σ' H'
  | .brk => ∃ σ' H', Inv X pins σ' H' s' ∧ D.bk σ' H'
  | .cont => ∃ σ' H', Inv X pins σ' H' s' ∧ D.ct σ' H'
  | .ret u => ∃ v σ' H', Inv X pins σ' H' s' ∧ RelV v u ∧ D.rt v H'
def PE (X : Cx) (e : Expr) (t : TE) : Prop :=
  ∀ (pins : List (Addr × Obj)) (s : Shared) (σ : St) (H : Hp) (Q : VK), Inv X pins σ H s → t σ H Q → wpAny (model X.prog X.w) X.A (eval e X.env) (EP X pins σ Q) X.xe s
def PT (X : Cx) (e : Expr) (t : TT) : Prop :=
  ∀ (pins : List (Addr × Obj)) (s : Shared) (σ : St) (H : Hp) (Q : Bool → Hp → Prop), Inv X pins σ H s → t σ H Q → wpAny (model X.prog X.w) X.A (isTrue e X.env (eval e X.env)) (TP X pins σ Q) X.xe s
def PW (X : Cx) (e : Expr) (t : TT) : Prop :=
  ∀ (whole : Sem Value) (pins : List (Addr × Obj)) (s : Shared) (σ : St) (H : Hp) (Q : Bool → Hp → Prop), Inv X pins σ H s → t σ H Q → wpAny (model X.prog X.w) X.A (isTrue e X.env whole) (TP X pins σ Q) X.xe s
theorem PW.pt {X : Cx} {e : Expr} {t : TT} (h : PW X e t) : PT X e t := h _
def PA (X : Cx) (es : List Expr) (t : TA) : Prop :=
  ∀ (pos : Pos) (pins : List (Addr × Obj)) (s : Shared) (σ : St) (H : Hp) (Q : List V → Hp → Prop), Inv X pins σ H s → t σ H Q → wpAny (model X.prog X.w) X.A (spliced (backTo pos (starEach es X.env))) (AP X pins σ Q) X.xe s
def PS (X : Cx) (st : Stmt) (t : TS) : Prop :=
  ∀ (pins : List (Addr × Obj)) (s : Shared) (σ : St) (H : Hp) (D : Ends), Inv X pins σ H s → t D σ H → wpAny (model X.prog X.w) X.A (exec st X.env) (SP X pins D) X.xe s
def PSs (X : Cx) (st : List Stmt) (t : TS) : Prop :=
  ∀ (pins : List (Addr × Obj)) (s : Shared) (σ : St) (H : Hp) (D : Ends), Inv X pins σ H s → t D σ H → wpAny (model X.prog X.w) X.A (execs st X.env) (SP X pins D) X.xe s
theorem thn {α : Type} {t : Sem α} {Q Q' : α → Shared → Prop} {M : Model} {A : Around} {E : Value → Shared → Prop} {s : Shared} (h : wpAny M A t Q E s) (hQ : ∀ a s, Q a s → Q' a s) : wpAny M A t Q' E s := wpAny_mono h hQ fun _ _ x => x
end L2
namespace L2
open PySem PySem.Spec PyProof.Rows
section
variable {X : Cx}
def tVar (i : Nat) : TE := fun σ H Q => ∃ v, σ[i]? = some (some v) ∧ Q v H
def tC (v : V) : TE := fun _ H Q => Q v H
theorem pe_var {i : Nat} {x : Str} {pos : Pos} (hN : X.N[i]? = some x) (hv : Vis X.env.scope x) (hd : (x == ("__debug__" : Str)) = false := by decide) (hcd : (x == ("__classdict__" : Str)) = false := by decide) : PE X (.Name x pos) (tVar i) := by
  intro pins s σ H Q I h
  obtain ⟨v, e, h⟩ := h
  obtain ⟨m, hn, hl⟩ := I.loc
  obtain ⟨u, r, l⟩ := hl i x v hN e hv
  have fin : EP X pins σ Q u s := ⟨v, H, I, r, h⟩
  rcases l with ⟨hk, hm⟩ | ⟨hk, c, hc, hcell⟩
  · exact wpAny_Name (wpAny_loadName_local I.ok.kind hk hn hm fin) hd
  · rcases hk with hk | hk
    · exact wpAny_Name (wpAny_loadName_cell I.ok.kind hk hc hcell fin) hd
    · exact wpAny_Name (wpAny_loadName_free I.ok.kind hk hc hcell fin hcd) hd
theorem pe_int {i j pos} : PE X (.Constant (.int i) j pos) (tC (.int i)) := fun _ _ _ H _ I h => wpAny_Constant_int ⟨.int i, H, I.tok _, ⟨_, rfl⟩, h⟩
theorem pe_bl {b j pos} : PE X (.Constant (.bool b) j pos) (tC (.bl b)) := fun _ _ _ H _ I h => Constant_bool ⟨.bl b, H, I, rfl, h⟩
theorem pe_non {j pos} : PE X (.Constant .none j pos) (tC .non) := fun _ _ _ H _ I h => Constant_none ⟨.non, H, I, rfl, h⟩
theorem pe_str {x j pos} : PE X (.Constant (.str x) j pos) (tC (.str x)) := fun _ _ _ H _ I h => Calls.Constant_str ⟨.str x, H, I.tok _, ⟨_, rfl⟩, h⟩
def Gl (X : Cx) (x : Str) : Prop := X.env.kindOf x = some .globalImplicit
theorem ld_glob {E : Value → Shared → Prop} {pins : List (Addr × Obj)} {s : Shared} {σ : St} {H : Hp} {x : Str} {u : Value} {pos : Pos} {Q : Value → Shared → Prop} (I : Inv X pins σ H s) (hg : Gl X x) (hm : X.mg x = some u) (h : Q u s)
    (hd : (x == ("__debug__" : Str)) = false := by decide) : wpAny (model X.prog X.w) X.A (eval (.Name x pos) X.env) Q E s :=
  Calls.Name_function_global I.ok.kind hg (Calls.loadGlobal_global (by rw [I.ok.glob]; exact I.mod.glob.keeps I.bk) hm h) hd
theorem ld_blt {E : Value → Shared → Prop} {pins : List (Addr × Obj)} {s : Shared} {σ : St} {H : Hp} {x : Str} {u : Value} {pos : Pos} {Q : Value → Shared → Prop} (I : Inv X pins σ H s) (hg : Gl X x) (hm : X.mg x = none) (hv : bootBuiltins x = some u) (h : Q u s)
    (hn : x ≠ "__name__" := by decide) (hd : (x == ("__debug__" : Str)) = false := by decide) : wpAny (model X.prog X.w) X.A (eval (.Name x pos) X.env) Q E s := by
  obtain ⟨mb, h1, h2⟩ := I.mod.blt
  exact Calls.Name_function_global I.ok.kind hg (Calls.loadGlobal_builtin (by rw [I.ok.glob]; exact I.mod.glob.keeps I.bk) hm (by rw [I.ok.blt]; exact h1.keeps I.bk) ((h2 x hn).trans hv) h) hd
theorem pe_glob {x : Str} {v : V} {u : Value} {pos : Pos} (hg : Gl X x) (hm : X.mg x = some u) (r : RelV v u) (hd : (x == ("__debug__" : Str)) = false := by decide) : PE X (.Name x pos) (tC v) :=
  fun _ _ _ H _ I h => ld_glob I hg hm ⟨v, H, I, r, h⟩ hd
theorem pe_bltn {x : Str} {v : V} {u : Value} {pos : Pos} (hg : Gl X x) (hm : X.mg x = none) (hv : bootBuiltins x = some u) (r : RelV v u) (hn : x ≠ "__name__" := by decide) (hd : (x == ("__debug__" : Str)) = false := by decide) : PE X (.Name x pos) (tC v) :=
  fun _ _ _ H _ I h => ld_blt I hg hm hv ⟨v, H, I, r, h⟩ hn hd
variable {a b : Expr} {ta tb : TE} {pos : Pos}
def tB (t : TE) : TT := fun σ H Q => t σ H fun x H1 => ∃ c, x = .bl c ∧ Q c H1
theorem pt_val {e : Expr} {t : TE} (h : PE X e t) (he : ∀ whole, isTrue e X.env whole = (do let v ← whole; standAt e.pos; holding [v] (truthy v)) := by intro _; rfl) : PT X e (tB t) := by
  intro pins s σ H Q I hw
  refine isTrue_plain (thn (h pins s σ H _ I hw) fun v s1 hm0 => ?_) (he _)
  obtain ⟨x, H1, I1, r1, q1⟩ := hm0
  obtain ⟨d, rfl, q⟩ := q1
  cases r1
  exact wpAny_truthy_bool ⟨H1, I1, q⟩
variable {tA tB' : TT} {rest : List Expr}
def tAnd (t u : TT) : TT := fun σ H Q => t σ H fun c H1 => if c = true then u σ H1 Q else Q false H1
def tOr (t u : TT) : TT := fun σ H Q => t σ H fun c H1 => if c = true then Q true H1 else u σ H1 Q
def tNot (t : TT) : TT := fun σ H Q => t σ H fun c H1 => Q (!c) H1
theorem pw_and1 (ha : PT X a tA) : PW X (.BoolOp .And [a] pos) tA := by
  intro wh pins s σ H Q I h
  refine isTrue_and (thn (ha pins s σ H Q I h) fun c s1 e => ?_)
  cases c with
  | true => exact isTrue_and_nil e
  | false => exact e
theorem pw_or1 (ha : PT X a tA) : PW X (.BoolOp .Or [a] pos) tA := by
  intro wh pins s σ H Q I h
  refine isTrue_or (thn (ha pins s σ H Q I h) fun c s1 e => ?_)
  cases c with
  | false => exact isTrue_or_nil e
  | true => exact e
theorem pw_and (ha : PT X a tA) (hb : PW X (.BoolOp .And (b :: rest) pos) tB') : PW X (.BoolOp .And (a :: b :: rest) pos) (tAnd tA tB') := by
  intro wh pins s σ H Q I h
  refine isTrue_and (thn (ha pins s σ H _ I h) fun c s1 hm0 => ?_)
  obtain ⟨H1, I1, q1⟩ := hm0
  cases c with
  | true => exact hb wh pins s1 σ H1 Q I1 q1
  | false => exact ⟨H1, I1, q1⟩
theorem pw_or (ha : PT X a tA) (hb : PW X (.BoolOp .Or (b :: rest) pos) tB') : PW X (.BoolOp .Or (a :: b :: rest) pos) (tOr tA tB') := by
  intro wh pins s σ H Q I h
  refine isTrue_or (thn (ha pins s σ H _ I h) fun c s1 hm0 => ?_)
  obtain ⟨H1, I1, q1⟩ := hm0
  cases c with
  | true => exact ⟨H1, I1, q1⟩
  | false => exact hb wh pins s1 σ H1 Q I1 q1
theorem pt_not (ha : PT X a tA) : PT X (.UnaryOp .Not a pos) (tNot tA) := by
  intro pins s σ H Q I h
  exact isTrue_not (ha pins s σ H (fun c H1 => Q (!c) H1) I h)
def tAndV (ta tb : TE) : TE := fun σ H Q => ta σ H fun x H1 => ∃ c, x = .bl c ∧ if c = true then tb σ H1 Q else Q (.bl false) H1
def tNotV (ta : TE) : TE := fun σ H Q => ta σ H fun x H1 => ∃ c, x = .bl c ∧ Q (.bl (!c)) H1
theorem pe_one {op} {t : TE} (h : PE X a t) : PE X (.BoolOp op [a] pos) t := fun pins s σ H Q I hw => BoolOp_one (h pins s σ H Q I hw)
theorem pe_and (ha : PE X a ta) (hb : PE X (.BoolOp .And (b :: rest) pos) tb) : PE X (.BoolOp .And (a :: b :: rest) pos) (tAndV ta tb) := by
  intro pins s σ H Q I h
  refine BoolOp_and (thn (ha pins s σ H _ I h) fun v s1 hm0 => ?_)
  obtain ⟨x, H1, I1, r1, q1⟩ := hm0
  obtain ⟨c, rfl, q1⟩ := q1
  cases r1
  refine wpAny_truthy_bool ?_
  cases c with
  | true => exact hb pins s1 σ H1 Q I1 q1
  | false => exact ⟨.bl false, H1, I1, rfl, q1⟩
theorem pe_not (ha : PE X a ta) : PE X (.UnaryOp .Not a pos) (tNotV ta) := by
  intro pins s σ H Q I h
  refine UnaryOp_ (thn (ha pins s σ H _ I h) fun v s1 hm0 => ?_)
  obtain ⟨x, H1, I1, r1, q1⟩ := hm0
  obtain ⟨c, rfl, q1⟩ := q1
  cases r1
  exact not_of (wpAny_truthy_bool ⟨.bl (!c), H1, I1, rfl, q1⟩)
end
end L2
namespace L2
open PySem PySem.Spec PyProof.Rows
def SqL (K : PySem.W.Frag) (H : Hp) (a : Addr) (xs : List V) : Prop :=
  Rd H a (.lst xs) ∨
    ∃ (o : Obj) (its : Array Value) (n : Nat), K.lookup a = some o ∧ o.cls = .type "list" ∧ o.dict = none ∧ o.data = .seq its n ∧ its.size ≤ sizeLine ∧ Vals xs its.toList
def SqT (K : PySem.W.Frag) (H : Hp) (a : Addr) (xs : List V) : Prop :=
  Rd H a (.tup xs) ∨
    ∃ (o : Obj) (its : Array Value) (n : Nat), K.lookup a = some o ∧ o.cls = .type "tuple" ∧ o.data = .seq its n ∧ its.size ≤ sizeLine ∧ Vals xs its.toList
def absV : Value → Option V
  | .none => some .non
  | .bool b => some (.bl b)
  | .int i _ => some (.int i)
  | .str x _ => some (.str x)
  | .bytes b _ => some (.byt b)
  | .float b _ => some (.flt b)
  | .ref a => some (.ref a)
  | .type n => some (.ty n)
  | _ => none
theorem RelV.abs {x : V} {u : Value} (r : RelV x u) : absV u = some x := by
  cases x with
  | non => cases r; rfl
  | bl _ => cases r; rfl
  | int _ => obtain ⟨t, rfl⟩ := r; rfl
  | str _ => obtain ⟨t, rfl⟩ := r; rfl
  | byt _ => obtain ⟨t, rfl⟩ := r; rfl
  | flt _ => obtain ⟨t, rfl⟩ := r; rfl
  | ref _ => cases r; rfl
  | ty _ => cases r; rfl
theorem RelV.inj {x y : V} {u : Value} (r : RelV x u) (q : RelV y u) : x = y := Option.some.inj (r.abs.symm.trans q.abs)
theorem Vals.inj : ∀ {xs ys : List V} {us : List Value}, Vals xs us → Vals ys us → xs = ys
  | _, _, _, .nil, .nil => rfl
  | _, _, _, .cons r t, .cons r' t' => by rw [r.inj r', Vals.inj t t']
section
variable {X : Cx} {pins : List (Addr × Obj)} {σ : St} {H : Hp} {s : Shared} {a : Addr} {xs ys : List V}
theorem SqL.of {K : PySem.W.Frag} (h : H a = some (.lst xs)) : SqL K H a xs := .inl (.inl h)
theorem SqT.of {K : PySem.W.Frag} (h : H a = some (.tup xs)) : SqT K H a xs := .inl (.inl h)
theorem Inv.list (I : Inv X pins σ H s) (h : SqL X.K H a xs) : ∃ its : List Value, Vals xs its ∧ PlainL s.heap a its.toArray ∧ xs.length ≤ sizeLine := by
  rcases h with h | ⟨o, its, n, hk, hc, hd, hs, hz, r⟩
  · obtain ⟨z, its, n, r, e⟩ := h.ok I.hok
    exact ⟨its, r, ⟨_, n, e, rfl, rfl, rfl⟩, z⟩
  · refine ⟨its.toList, r, ⟨o, n, I.kIn a o hk, hc, hd, by simpa using hs⟩, ?_⟩
    have e := r.length
    simp only [Array.length_toList] at e
    omega
theorem Inv.tuple (I : Inv X pins σ H s) (h : SqT X.K H a xs) : ∃ its : List Value, Vals xs its ∧ IsTup s.heap a its.toArray ∧ xs.length ≤ sizeLine := by
  rcases h with h | ⟨o, its, n, hk, hc, hs, hz, r⟩
  · obtain ⟨z, its, r, p⟩ := h.ok I.hok
    exact ⟨its, r, p, z⟩
  · refine ⟨its.toList, r, ⟨o, I.kIn a o hk, hc, n, by simpa using hs⟩, ?_⟩
    have e := r.length
    simp only [Array.length_toList] at e
    omega
theorem Inv.list_inj (I : Inv X pins σ H s) (h : SqL X.K H a xs) (h' : SqL X.K H a ys) : xs = ys := by
  obtain ⟨its, r, ⟨o, n, e, _, _, d⟩, _⟩ := I.list h
  obtain ⟨its', r', ⟨o', n', e', _, _, d'⟩, _⟩ := I.list h'
  rw [e] at e'; cases e'
  rw [d] at d'
  injection d' with d1 _
  have : its = its' := by simpa using congrArg Array.toList d1
  subst this
  exact r.inj r'
end
abbrev Cx.wish (X : Cx) (E : Value → Shared → Prop) : Cx := { X with xe := E }
abbrev Cx.nox (X : Cx) : Cx := X.wish fun _ _ => False
theorem Cx.Ok.wish {X : Cx} (ok : X.Ok) (E : Value → Shared → Prop) : (X.wish E).Ok :=
  ⟨ok.mod, ok.kind, ok.glob, ok.blt, ok.above, ok.inj, ok.has, ok.cab, ok.hd, ok.frames, ok.stk, ok.exf, ok.bs, ok.bsz, ok.noex, ok.exfs, ok.funs, ok.frf⟩
theorem Cx.Ok.unwish {X : Cx} {E : Value → Shared → Prop} (ok : (X.wish E).Ok) : X.Ok :=
  ⟨ok.mod, ok.kind, ok.glob, ok.blt, ok.above, ok.inj, ok.has, ok.cab, ok.hd, ok.frames, ok.stk, ok.exf, ok.bs, ok.bsz, ok.noex, ok.exfs, ok.funs, ok.frf⟩
section
variable {X : Cx} {pins : List (Addr × Obj)} {σ : St} {H : Hp} {s : Shared} {E : Value → Shared → Prop}
theorem Inv.wish (I : Inv X pins σ H s) (E : Value → Shared → Prop) : Inv (X.wish E) pins σ H s := ⟨I.ok.wish E, I.os, I.bare, I.base, I.loc, I.cell, I.free, I.freeC, I.pin, I.hok, I.len⟩
theorem Inv.unwish (I : Inv (X.wish E) pins σ H s) : Inv X pins σ H s := ⟨I.ok.unwish, I.os, I.bare, I.base, I.loc, I.cell, I.free, I.freeC, I.pin, I.hok, I.len⟩
theorem SP.unwish {D : Ends} {f : Flow} {s' : Shared} (h : SP (X.wish E) pins D f s') : SP X pins D f s' := by
  cases f with
  | next => obtain ⟨σ', H', I, q⟩ := h; exact ⟨σ', H', I.unwish, q⟩
  | brk => obtain ⟨σ', H', I, q⟩ := h; exact ⟨σ', H', I.unwish, q⟩
  | cont => obtain ⟨σ', H', I, q⟩ := h; exact ⟨σ', H', I.unwish, q⟩
  | ret u => obtain ⟨v, σ', H', I, r, q⟩ := h; exact ⟨v, σ', H', I.unwish, r, q⟩
theorem PSs.nox {st : List Stmt} {t : TS} (h : PSs X.nox st t) : PSs X st t := fun pins s σ H D I hw =>
  wpAny_mono (h pins s σ H D (I.wish _) hw) (fun _ _ q => q.unwish) fun _ _ z => False.elim z
end
section
variable {X : Cx} {st : Stmt} {rest : List Stmt} {t u : TS} {e : Expr} {te : TE} {pos : Pos}
def tNext : TS := fun D σ H => D.nx σ H
def tSeq (t u : TS) : TS := fun D σ H => t { D with nx := u D } σ H
theorem pss_nil : PSs X [] tNext := fun _ _ σ H _ I h => wpAny_execs_nil ⟨σ, H, I, h⟩
theorem pss_cons (h1 : PS X st t) (h2 : PSs X rest u) : PSs X (st :: rest) (tSeq t u) := by
  intro pins s σ H D I h
  refine wpAny_execs_cons (thn (h1 pins s σ H { D with nx := u D } I h) fun f s1 q => ?_)
  cases f with
  | next =>
    obtain ⟨σ', H', I', q⟩ := q
    exact h2 pins s1 σ' H' D I' q
  | ret v => exact q
  | brk => exact q
  | cont => exact q
theorem pss_one (h1 : PS X st t) : PSs X [st] t := by
  intro pins s σ H D I h
  refine wpAny_execs_cons (thn (h1 pins s σ H D I h) fun f s1 q => ?_)
  cases f with
  | next => exact wpAny_execs_nil q
  | ret v => exact q
  | brk => exact q
  | cont => exact q
theorem Inv.quiet {pins : List (Addr × Obj)} {σ : St} {H : Hp} {s : Shared} (I : Inv X pins σ H s) : interactive X.env = false := by simp [interactive, I.ok.kind]
def tDrop (te : TE) : TS := fun D σ H => te σ H fun _ H1 => D.nx σ H1
theorem ps_expr (he : PE X e te) (hs : swapsWith e none pos.line X.env = pure false := by rfl) : PS X (.Expr e pos) (tDrop te) := by
  intro pins s σ H D I h
  refine wpAny_Expr_any (thn (he pins s σ H _ I h) fun v s1 hm0 => ?_) I.quiet hs
  obtain ⟨x, H1, I1, r1, q1⟩ := hm0
  exact ⟨σ, H1, I1, q1⟩
def tRet (te : TE) : TS := fun D σ H => te σ H D.rt
theorem ps_ret (he : PE X e te) : PS X (.Return (some e) pos) (tRet te) := by
  intro pins s σ H D I h
  refine wpAny_Return_some (thn (he pins s σ H _ I h) fun v s1 hm0 => ?_)
  obtain ⟨x, H1, I1, r1, q1⟩ := hm0
  exact ⟨x, σ, H1, I1, r1, q1⟩
def tIfS (c : TT) (t u : TS) : TS := fun D σ H => c σ H fun b H1 => if b = true then t D σ H1 else u D σ H1
theorem ps_if {c : Expr} {a b : List Stmt} {tc : TT} (hc : PT X c tc) (ha : PSs X a t) (hb : PSs X b u) : PS X (.If c a b pos) (tIfS tc t u) := by
  intro pins s σ H D I h
  refine wpAny_If (thn (hc pins s σ H _ I h) fun d s1 hm0 => ?_)
  obtain ⟨H1, I1, q1⟩ := hm0
  cases d with
  | true => exact ha pins s1 σ H1 D I1 q1
  | false => exact hb pins s1 σ H1 D I1 q1
end
abbrev TG := V → St → Hp → (St → Hp → Prop) → Prop
abbrev TGs := List V → St → Hp → (St → Hp → Prop) → Prop
def PG (X : Cx) (target : Expr) (t : TG) : Prop :=
  ∀ (pins : List (Addr × Obj)) (s : Shared) (σ : St) (H : Hp) (v : V) (u : Value) (Q : St → Hp → Prop), Inv X pins σ H s → RelV v u → t v σ H Q →
    wpAny (model X.prog X.w) X.A (assign target X.env u) (fun _ s' => ∃ σ' H', Inv X pins σ' H' s' ∧ Q σ' H') X.xe s
def PGs (X : Cx) (ts : List Expr) (t : TGs) : Prop :=
  ∀ (pins : List (Addr × Obj)) (s : Shared) (σ : St) (H : Hp) (vs : List V) (us : List Value) (Q : St → Hp → Prop), Inv X pins σ H s → Vals vs us → t vs σ H Q →
    wpAny (model X.prog X.w) X.A (assignInOrder ((assignEach ts X.env).map (·.2)) us) (fun _ s' => ∃ σ' H', Inv X pins σ' H' s' ∧ Q σ' H') X.xe s
abbrev TSet := V → V → V → Hp → (Hp → Prop) → Prop
def PSet (X : Cx) (t : TSet) : Prop :=
  ∀ (pins : List (Addr × Obj)) (s : Shared) (σ : St) (H : Hp) (o i v : V) (ov iv u : Value) (Q : Hp → Prop), Inv X pins σ H s → RelV o ov → RelV i iv → RelV v u → t o i v H Q →
    wpAny (model X.prog X.w) X.A (setItem ov iv u) (fun _ s' => ∃ H', Inv X pins σ H' s' ∧ Q H') X.xe s
section
variable {X : Cx} {pos : Pos}
def gName (i : Nat) : TG := fun v σ H Q => Q (σ.set i (some v)) H
theorem pg_name {i : Nat} {x : Str} (hN : X.N.Nodup) (hi : X.N[i]? = some x) (hx : Loc X.env.scope x) (hf : X.fn x = true ∨ X.env.scope.names.lookup x = some .local := by first | exact .inl rfl | exact .inr rfl | assumption) : PG X (.Name x pos) (gName i) := by
  intro pins s σ H v u Q I r h
  exact wpAny_assign_Name (store_ok I hN hi hx r (fun s' I' => ⟨_, H, I', h⟩) hf)
def gNil : TGs := fun vs σ H Q => vs = [] ∧ Q σ H
def gCons (t : TG) (u : TGs) : TGs := fun vs σ H Q => ∃ v r, vs = v :: r ∧ t v σ H fun σ' H' => u r σ' H' Q
theorem pgs_nil : PGs X [] gNil := by
  intro pins s σ H vs us Q I r h
  obtain ⟨e, h⟩ := h
  subst e
  cases r
  exact assignInOrder_nil ⟨σ, H, I, h⟩
theorem pgs_cons {e : Expr} {es : List Expr} {t : TG} {u : TGs} (h1 : PG X e t) (h2 : PGs X es u)
    (hs : (assignEach (e :: es) X.env).map (·.2) = assign e X.env :: (assignEach es X.env).map (·.2) := by rfl) : PGs X (e :: es) (gCons t u) := by
  intro pins s σ H vs us Q I r h
  obtain ⟨v, vr, e1, h⟩ := h
  subst e1
  cases r with
  | cons r rr =>
    rw [hs]
    refine assignInOrder_cons (thn (h1 pins s σ H _ _ _ I r h) fun _ s1 hm0 => ?_)
    obtain ⟨σ1, H1, I1, q1⟩ := hm0
    exact h2 pins s1 σ1 H1 _ _ Q I1 rr q1
def gSub (to ti : TE) (t : TSet) : TG := fun v σ H Q => to σ H fun o H1 => ti σ H1 fun i H2 => t o i v H2 fun H3 => Q σ H3
theorem pg_sub {o i : Expr} {to ti : TE} {t : TSet} (ho : PE X o to) (hi : PE X i ti) (hs : PSet X t)
    (ha : ∀ v, assign (.Subscript o i pos) X.env v = (do
      let ov ← holding [v] (eval o X.env)
      let iv ← holding [v, ov] (eval i X.env)
      standAt pos
      holding [v, ov, iv] (setItem ov iv v)
      release [v, ov, iv] []) := by intro _; rfl) : PG X (.Subscript o i pos) (gSub to ti t) := by
  intro pins s σ H v u Q I r h
  rw [ha]
  refine wpAny_bind (wpAny_holding (thn (ho pins s σ H _ I h) fun ov s1 hm0 => ?_))
  obtain ⟨x, H1, I1, r1, q1⟩ := hm0
  refine wpAny_bind (wpAny_holding (thn (hi pins s1 σ H1 _ I1 q1) fun iv s2 hm0 => ?_))
  obtain ⟨y, H2, I2, r2, q2⟩ := hm0
  refine wpAny_bind (wpAny_standAt (wpAny_bind (wpAny_holding (thn (hs pins s2 σ H2 x y v ov iv u _ I2 r1 r2 r q2) fun _ s3 hm0 => ?_))))
  obtain ⟨H3, I3, q3⟩ := hm0
  exact wpAny_release ⟨σ, H3, I3, q3⟩
def tAsg (te : TE) (g : TG) : TS := fun D σ H => te σ H fun x H1 => g x σ H1 D.nx
theorem ps_asg {tg e : Expr} {te : TE} {g : TG} (he : PE X e te) (hg : PG X tg g) (hs : swapsWithSole [tg] e pos.line X.env = pure false := by rfl) (hw : swappedStores [tg] e X.env = pure none := by rfl)
    (h1 : (assignEach [tg] X.env).map (·.2) = [assign tg X.env] := by rfl) : PS X (.Assign [tg] e pos) (tAsg te g) := by
  intro pins s σ H D I h
  refine wpAny_Assign_stores (thn (he pins s σ H _ I h) fun v s1 hm0 => ?_) hs hw
  obtain ⟨x, H1, I1, r1, q1⟩ := hm0
  rw [h1]
  exact thn (hg pins s1 σ H1 x v _ I1 r1 q1) fun _ s2 q => q
theorem ps_set {i : Nat} {x : Str} {e : Expr} {te : TE} {pos' : Pos} (hN : X.N.Nodup) (hi : X.N[i]? = some x) (hx : Loc X.env.scope x) (he : PE X e te) (hs : swapsWith e (some (.Name x pos')) pos.line X.env = pure false := by rfl) (hf : X.fn x = true ∨ X.env.scope.names.lookup x = some .local := by first | exact .inl rfl | exact .inr rfl | assumption) :
    PS X (.Assign [.Name x pos'] e pos) (tAsg te (gName i)) := by
  intro pins s σ H D I h
  refine wpAny_Assign_Name (thn (he pins s σ H _ I h) fun v s1 hm0 => ?_) hs
  obtain ⟨y, H1, I1, r1, q1⟩ := hm0
  exact store_ok I1 hN hi hx r1 (fun s2 I2 => ⟨_, H1, I2, q1⟩) hf
end
section
variable {X : Cx} {pos : Pos}
end
structure It where
  go : Nat → Hp → Prop
  yld : Nat → Hp → V → Hp → Prop
  stop : Nat → Hp → Prop
def FpOk (X : Cx) (pins : List (Addr × Obj)) (H : Hp) (b : Addr) : Prop :=
  H b = none ∧ b ≠ X.env.locals ∧ b ∉ X.fs ∧ (b ∈ X.ex ∨ X.s₀.heap.objs.size ≤ b) ∧ (∀ x c, X.env.cells.lookup x = some c → c ≠ b) ∧ ∀ p ∈ X.pn ++ pins, p.1 ≠ b
theorem Inv.fpOk {X : Cx} {pins : List (Addr × Obj)} {σ : St} {H H' : Hp} {s : Shared} {b : Addr} (I : Inv X pins σ H s) (hb : s.heap.objs.size ≤ b) (hn : H' b = none) : FpOk X pins H' b := by
  refine ⟨hn, Nat.ne_of_gt (Nat.lt_of_lt_of_le I.lt hb), I.nofs hb, .inr (Nat.le_trans I.sz hb), fun x c e z => ?_, fun p hp z => ?_⟩
  · obtain ⟨v, q⟩ := I.cell x c e
    exact absurd (Nat.lt_of_lt_of_le q.lt (by rw [z]; exact hb)) (Nat.lt_irrefl _)
  · exact absurd (Nat.lt_of_lt_of_le (Heap.lt_size (I.pin p hp).1) (by rw [z]; exact hb)) (Nat.lt_irrefl _)
structure Turn (P : Program) (w : World) (K : PySem.W.Frag) (tg : Expr) (J : It) (fp : List Addr) (it : Addr) (tn : Nat → Heap → Prop) : Prop where
  mem : it ∈ fp
  obj : ∀ i h, tn i h → ∀ b ∈ fp, ∃ o, h.get? b = some o ∧ ∀ v, o.data ≠ .cell v
  keep : ∀ i h h', tn i h → (∀ b ∈ fp, ∀ o, h.get? b = some o → h'.get? b = some o) → tn i h'
  item : ∀ (X : Cx), X.prog = P → X.w = w → X.K = K → X.calm = true → ∀ (i : Nat) (pins : List (Addr × Obj)) (s : Shared) (σ : St) (H : Hp) (E : Value → Shared → Prop), Inv X pins σ H s → (∀ b ∈ fp, FpOk X pins H b) → tn i s.heap → J.go i H →
    wpAny (model P w) X.A (pyNext (.ref it)) (fun r s1 => ∃ u, r = some u ∧
      wpAny (model P w) X.A (letOwnedTupleGo tg (.ref it) u) (fun _ s2 => ∃ x H', Inv X pins σ H' s2 ∧ RelV x u ∧ J.yld i H x H' ∧ tn (i + 1) s2.heap ∧ ∀ b ∈ fp, H' b = none) E s1) E s
  done : ∀ (X : Cx), X.prog = P → X.w = w → X.K = K → X.calm = true → ∀ (i : Nat) (pins : List (Addr × Obj)) (s : Shared) (σ : St) (H : Hp) (E : Value → Shared → Prop), Inv X pins σ H s → (∀ b ∈ fp, FpOk X pins H b) → tn i s.heap → J.stop i H →
    wpAny (model P w) X.A (pyNext (.ref it)) (fun r s1 => r = none ∧ Inv X pins σ H s1) E s
  self : ∀ (A : Around) (i : Nat) (s : Shared) (Q : Value → Shared → Prop) (E : Value → Shared → Prop), tn i s.heap → Q (.ref it) s → wpAny (model P w) A (pyIter (.ref it)) Q E s
abbrev TI := St → Hp → (It → Hp → Prop) → Prop
def PIE (X : Cx) (pins : List (Addr × Obj)) (σ : St) (tg : Expr) (R : It → Hp → Prop) (itv : Value) (s2 : Shared) : Prop :=
  ∃ (it : Addr) (fp : List Addr) (tn : Nat → Heap → Prop) (J : It) (H' : Hp), itv = .ref it ∧ Inv X pins σ H' s2 ∧ Turn X.prog X.w X.K tg J fp it tn ∧ tn 0 s2.heap ∧ (∀ b ∈ fp, FpOk X pins H' b) ∧ R J H'
def PI (X : Cx) (tg iter : Expr) (wi : TI) : Prop :=
  ∀ (pins : List (Addr × Obj)) (s : Shared) (σ : St) (H : Hp) (R : It → Hp → Prop), Inv X pins σ H s → wi σ H R →
    wpAny (model X.prog X.w) X.A (eval iter X.env) (fun v s1 => wpAny (model X.prog X.w) X.A (pyIter v) (PIE X pins σ tg R) X.xe s1) X.xe s
theorem go_of {M : Model} {A : Around} {E : Value → Shared → Prop} {s : Shared} {tg : Expr} {it : Addr} {u : Value} {o : Obj} {n : String} {vs : Array Value} {Q : Unit → Shared → Prop} (ho : s.heap.get? it = some o) (hc : o.cls = .type n) (hd : o.data = .fields vs)
    (hn : ["enumerate", "zip", "dict_itemiterator", "dict_reverseitemiterator", "odict_iterator", "itertools.zip_longest", "itertools.pairwise"].contains n = false) (hQ : Q () s) : wpAny M A (letOwnedTupleGo tg (.ref it) u) Q E s := by
  unfold letOwnedTupleGo
  cases tg <;> first
    | exact wpAny_pure hQ
    | (cases u <;> first
        | exact wpAny_pure hQ
        | (refine wpAny_bind (wpAny_load ho ?_)
           rw [hc, hd]
           show wpAny M A (if (["enumerate", "zip", "dict_itemiterator", "dict_reverseitemiterator", "odict_iterator", "itertools.zip_longest", "itertools.pairwise"].contains n && vs[0]? == some (rawInt _)) = true then _ else _) Q E s
           rw [if_neg (by intro h; rw [hn, Bool.false_and] at h; cases h)]
           exact wpAny_pure hQ))
def Itl (K : PySem.W.Frag) (a : Addr) : It :=
  ⟨fun i H => ∃ xs x, SqL K H a xs ∧ xs[i]? = some x, fun i H x H' => H' = H ∧ ∀ xs, SqL K H a xs → xs[i]? = some x, fun i H => ∃ xs, SqL K H a xs ∧ xs.length ≤ i⟩
def Itr (lo : Int) (n : Nat) : It := ⟨fun i _ => i < n, fun i H x H' => H' = H ∧ x = .int (lo + i), fun i _ => n ≤ i⟩
theorem turn_list {P : Program} {w : World} {K : PySem.W.Frag} {tg : Expr} (a it : Addr) : Turn P w K tg (Itl K a) [it] it (fun i h => h.IsListIter it a i) where
  mem := by simp
  obj := fun i h st b hb => by
    have e : b = it := by simpa using hb
    subst e
    obtain ⟨o, e, c, d⟩ := st
    exact ⟨o, e, fun v z => by rw [d] at z; cases z⟩
  keep := fun i h h' st k => st.at fun o e => k it (by simp) o e
  item := by
    intro X hP hw hK hc i pins s σ H E I hf st hg
    subst hP hw hK
    obtain ⟨xs, x, hq, hx⟩ := hg
    obtain ⟨its, rv, p, hz⟩ := I.list hq
    obtain ⟨u, hu, ru⟩ := rv.get hx
    obtain ⟨f0, f1, f2, f3, f4, f5⟩ := hf it (by simp)
    refine wpAny_pyNext_list_item st p.isList (x := u) (by simpa using hu) fun h' st' sb => ?_
    have I1 : Inv X pins σ H { s with heap := h' } := I.turned (t' := s.toks) (fun b o hb e => (sb.2 b hb).trans e) f0 f1 f3 f4 f5
    obtain ⟨o, e, c, d⟩ := id st'
    exact ⟨u, rfl, go_of (s := { s with heap := h' }) e c d (by decide) ⟨x, H, I1, ru, ⟨rfl, fun ys hy => by rw [I.list_inj hy hq]; exact hx⟩, st', fun b hb => (hf b hb).1⟩⟩
  done := by
    intro X hP hw hK hc i pins s σ H E I hf st hg
    subst hP hw hK
    obtain ⟨xs, hq, hx⟩ := hg
    obtain ⟨its, rv, p, hz⟩ := I.list hq
    obtain ⟨f0, f1, f2, f3, f4, f5⟩ := hf it (by simp)
    have hl := rv.length
    exact wpAny_pyNext_list_end (I.ok.hd hc) st p.isList (by simp; omega) fun h' eb => ⟨rfl, I.turned (t' := s.toks) (fun b o hb e => eb b o hb e) f0 f1 f3 f4 f5⟩
  self := fun _ _ _ _ _ st h => wpAny_pyIter_listiter st h
theorem turn_range {P : Program} {w : World} {K : PySem.W.Frag} {tg : Expr} (it : Addr) (lo : Int) (n : Nat) : Turn P w K tg (Itr lo n) [it] it (fun i h => IsRangeIter h it (lo + (i : Nat) * 1) ((n : Int) - (i : Nat)) 1) where
  mem := by simp
  obj := fun i h st b hb => by
    have e : b = it := by simpa using hb
    subst e
    exact ⟨_, st, fun v z => by
      have z' : Data.fields _ = Data.cell v := z
      cases z'⟩
  keep := fun i h h' st k => k it (by simp) _ st
  item := by
    intro X hP hw hK hc i pins s σ H E I hf st hg
    subst hP hw hK
    obtain ⟨f0, f1, f2, f3, f4, f5⟩ := hf it (by simp)
    have W := Walks.range (prog := X.prog) (w := X.w) (I.ok.hd hc) it lo 1 n
    refine W.item i s _ _ hg st fun v h' tk hv st' kk => ?_
    obtain ⟨t, rfl⟩ := hv
    have I1 : Inv X pins σ H { s with heap := h', toks := tk } := I.turned (fun b o hb e => kk b o (by simpa using hb) e) f0 f1 f3 f4 f5
    refine ⟨_, rfl, go_of (s := { s with heap := h', toks := tk }) (n := "range_iterator") st' rfl rfl (by decide) ⟨.int (lo + i), H, I1, ⟨t, ?_⟩, ⟨rfl, rfl⟩, st', fun b hb => (hf b hb).1⟩⟩
    rw [Int.mul_one]
  done := by
    intro X hP hw hK hc i pins s σ H E I hf st hg
    subst hP hw hK
    obtain ⟨f0, f1, f2, f3, f4, f5⟩ := hf it (by simp)
    exact wpAny_pyNext_range_end (I.ok.hd hc) st (by have : n ≤ i := hg; omega) fun h' eb => ⟨rfl, I.turned (t' := s.toks) (fun b o hb e => eb b o hb e) f0 f1 f3 f4 f5⟩
  self := fun _ _ _ _ _ st h => wpAny_pyIter_rangeiter st h
end L2
namespace L2
open PySem PySem.Spec PyProof.Rows
section
variable {X : Cx} {tg : Expr}
def iList (K : PySem.W.Frag) (tl : TE) : TI := fun σ H R => tl σ H fun x H1 => ∃ a, x = .ref a ∧ (∃ xs, SqL K H1 a xs) ∧ R (Itl K a) H1
theorem pi_list {l : Expr} {tl : TE} (hl : PE X l tl) : PI X tg l (iList X.K tl) := by
  intro pins s σ H R I h
  refine thn (hl pins s σ H _ I h) fun v s1 hm0 => ?_
  obtain ⟨x, H1, I1, r1, q1⟩ := hm0
  obtain ⟨a, e, ⟨xs, hq⟩, q⟩ := q1
  subst e
  cases r1
  obtain ⟨its, rv, p, hz⟩ := I1.list hq
  refine wpAny_pyIter_list p.isList ?_
  refine ⟨s1.heap.objs.size, [s1.heap.objs.size], _, _, H1, rfl, I1.kept (t' := s1.toks) fun b o e => Heap.get?_push_of_some _ e, turn_list a _, ⟨_, Heap.get?_push_size _ rfl, rfl, rfl⟩, fun b hb => ?_, q⟩
  have e : b = s1.heap.objs.size := by simpa using hb
  subst e
  exact I1.fpOk (Nat.le_refl _) (I1.hok.fresh (Nat.le_refl _))
theorem range_it {pins : List (Addr × Obj)} {σ : St} {H : Hp} {s : Shared} {R : It → Hp → Prop} {E : Value → Shared → Prop} {lo hi : Int} {t u v : Tok} {tk : Nat} (I : Inv X pins σ H s) (h1 : -(2 ^ 62) ≤ lo) (h2 : lo < 2 ^ 62) (h3 : -(2 ^ 62) ≤ hi) (h4 : hi < 2 ^ 62)
    (q : R (Itr lo (hi - lo).toNat) H) : wpAny (model X.prog X.w) X.A (pyIter (.ref s.heap.objs.size)) (PIE X pins σ tg R) E { s with heap := s.heap.push { cls := .type "range", data := .fields #[.int lo t, .int hi u, .int 1 v] }, toks := tk } := by
  refine wpAny_pyIter_range (IsRange.new ..) (small_one h1 h2 h3 h4) ?_
  have I1 : Inv X pins σ H { s with heap := s.heap.push { cls := .type "range", data := .fields #[.int lo t, .int hi u, .int 1 v] }, toks := tk } := I.kept fun b o e => Heap.get?_push_of_some _ e
  refine ⟨(s.heap.push { cls := .type "range", data := .fields #[.int lo t, .int hi u, .int 1 v] }).objs.size, [(s.heap.push { cls := .type "range", data := .fields #[.int lo t, .int hi u, .int 1 v] }).objs.size], _, _, H, rfl,
    I1.kept (t' := tk) fun b o e => Heap.get?_push_of_some _ e, turn_range _ lo (hi - lo).toNat, ?_, fun b hb => ?_, q⟩
  · have e1 : lo + ((0 : Nat) : Int) * 1 = lo := by simp
    have e2 : (((hi - lo).toNat : Nat) : Int) - ((0 : Nat) : Int) = Builtin.Range.rangeSize lo hi 1 := by rw [rangeSize_one]; split <;> omega
    show IsRangeIter _ _ (lo + ((0 : Nat) : Int) * 1) ((((hi - lo).toNat : Nat) : Int) - ((0 : Nat) : Int)) 1
    rw [e1, e2]
    exact Heap.get?_push_size _ rfl
  · have e : b = (s.heap.push { cls := .type "range", data := .fields #[.int lo t, .int hi u, .int 1 v] }).objs.size := by simpa using hb
    subst e
    exact I1.fpOk (Nat.le_refl _) (I1.hok.fresh (Nat.le_refl _))
def iRng1 (ta : TA) : TI := fun σ H R => ta σ H fun vs H1 => ∃ j : Int, vs = [.int j] ∧ -(2 ^ 62) ≤ j ∧ j < 2 ^ 62 ∧ R (Itr 0 j.toNat) H1
theorem pi_range1 {a : Expr} {ta : TA} {p pos : Pos} (hg : Gl X "range") (hm : X.mg "range" = none) (ha : PA X [a] ta) (hs : starEach [a] X.env = [(false, eval a X.env)] := by rfl) : PI X tg (.Call (.Name "range" p) [a] [] pos) (iRng1 ta) := by
  intro pins s σ H R I h
  refine Call_ (ld_blt I hg hm boot_range (PyProof.Rows.callWith_type1 (thn (ha pos pins s σ H _ I h) fun us s1 hm0 => ?_) hs rfl))
  obtain ⟨vs, H1, I1, r1, q1⟩ := hm0
  obtain ⟨j, e, q1, q2, q⟩ := q1
  subst e
  cases r1 with
  | cons r rr =>
    cases rr
    obtain ⟨t, rfl⟩ := r
    exact call_range_1 (range_it I1 (by omega) (by omega) q1 q2 (by simpa using q))
def tFor (wi : TI) (g : TG) (tb : TS) : TS := fun D σ H => wi σ H fun J H1 => ∃ W : Nat → Nat → St → Hp → Prop, (∃ m, W 0 m σ H1) ∧ ∀ i m σ H, W i m σ H →
  (J.stop i H ∧ D.nx σ H) ∨ (J.go i H ∧ ∃ N : St → Hp → Prop, (∀ σ' H', N σ' H' → ∃ m', m' < m ∧ W (i + 1) m' σ' H') ∧ ∀ x H', J.yld i H x H' → g x σ H' fun σ2 H2 => tb { D with nx := N, ct := N, bk := D.nx } σ2 H2)
def pinsAt (fp : List Addr) (h : Heap) : List (Addr × Obj) := fp.filterMap fun b => (h.get? b).map fun o => (b, o)
theorem mem_pinsAt {fp : List Addr} {h : Heap} {b : Addr} {o : Obj} (hb : b ∈ fp) (e : h.get? b = some o) : (b, o) ∈ pinsAt fp h := List.mem_filterMap.mpr ⟨b, hb, by rw [e]; rfl⟩
theorem of_pinsAt {fp : List Addr} {h : Heap} {p : Addr × Obj} (hp : p ∈ pinsAt fp h) : p.1 ∈ fp ∧ h.get? p.1 = some p.2 := by
  obtain ⟨b, hb, e⟩ := List.mem_filterMap.mp hp
  cases q : h.get? b with
  | none => rw [q] at e; cases e
  | some o =>
    rw [q] at e
    have e' : (b, o) = p := Option.some.inj e
    subst e'
    exact ⟨hb, q⟩
theorem Inv.pinned {pins : List (Addr × Obj)} {σ : St} {H : Hp} {s : Shared} {fp : List Addr} (I : Inv X pins σ H s) (hf : ∀ b ∈ fp, FpOk X pins H b) (ho : ∀ b ∈ fp, ∃ o, s.heap.get? b = some o ∧ ∀ v, o.data ≠ .cell v) : Inv X (pins ++ pinsAt fp s.heap) σ H s :=
  I.pins_of fun p hp => (List.mem_append.mp hp).elim (fun z => I.pin p (List.mem_append_right _ z)) fun z => by
    obtain ⟨hb, e⟩ := of_pinsAt z
    obtain ⟨f0, f1, f2, _⟩ := hf p.1 hb
    obtain ⟨o, e', d⟩ := ho p.1 hb
    rw [e] at e'; cases e'
    exact ⟨e, f0, f1, f2, d⟩
theorem Inv.unpinned {pins pl : List (Addr × Obj)} {σ : St} {H : Hp} {s : Shared} (I : Inv X (pins ++ pl) σ H s) : Inv X pins σ H s := I.pins_of fun p hp => I.pin p (List.mem_append_right _ (List.mem_append_left _ hp))
theorem ps_for {iter : Expr} {body : List Stmt} {wi : TI} {g : TG} {tb : TS} {pos : Pos} (hp : PassesOwn (model X.prog X.w) X.A X.env X.xe) (hc : X.calm = true) (hi : PI X tg iter wi) (hg : PG X tg g) (hb : PSs X body tb)
    (hs : ∀ x, foldedSetIterable iter X.env x = pure x := by intro _; rfl) : PS X (.For tg iter body [] pos) (tFor wi g tb) := by
  intro pins s σ H D I h
  refine wpAny_For (thn (hi pins s σ H _ I h) fun v s1 h1 => thn h1 fun itv s2 h2 => ?_) hs
  obtain ⟨it, fp, tn, J, H2, e, I2, T, st2, f2, W, ⟨m0, w0⟩, turn⟩ := h2
  subst e
  have stat : ∀ {H' : Hp}, (∀ b ∈ fp, H' b = none) → ∀ b ∈ fp, FpOk X pins H' b := fun hn b hb => ⟨hn b hb, (f2 b hb).2⟩
  refine codeAny_forLoop_any (fun n s' => ∃ i σ' H', Inv X pins σ' H' s' ∧ tn i s'.heap ∧ (∀ b ∈ fp, H' b = none) ∧ W i n σ' H') ?_ m0 ⟨0, σ, H2, I2, st2, fun b hb => (f2 b hb).1, w0⟩
  rintro n s3 ⟨i, σ3, H3, I3, st3, fr3, w3⟩
  rcases turn i n σ3 H3 w3 with ⟨stop, qn⟩ | ⟨go, N, hN, step⟩
  · refine wpAny_passesOwn hp (thn (T.done X rfl rfl rfl hc i pins s3 σ3 H3 X.xe I3 (stat fr3) st3 stop) fun r s4 hm0 => ?_)
    obtain ⟨hr, I4⟩ := hm0
    subst hr
    exact wpAny_execs_nil ⟨σ3, H3, I4, qn⟩
  · refine wpAny_passesOwn hp (thn (T.item X rfl rfl rfl hc i pins s3 σ3 H3 X.xe I3 (stat fr3) st3 go) fun r s4 hm0 => ?_)
    obtain ⟨u, hr, h4⟩ := hm0
    subst hr
    refine wpAny_passesOwn hp (thn h4 fun _ s5 hm0 => ?_)
    obtain ⟨x, H5, I5, r5, y5, st5, fr5⟩ := hm0
    have I5' := I5.pinned (stat fr5) (T.obj _ _ st5)
    refine wpAny_passesOwn hp (thn (hg _ s5 σ3 H5 x u _ I5' r5 (step x H5 y5)) fun _ s6 hm0 => ?_)
    obtain ⟨σ6, H6, I6, q6⟩ := hm0
    refine wpAny_passesOwn hp (thn (hb _ s6 σ6 H6 _ I6 q6) fun f s7 q7 => ?_)
    have again : ∀ {σ7 : St} {H7 : Hp}, Inv X (pins ++ pinsAt fp s5.heap) σ7 H7 s7 → N σ7 H7 → ∃ m, m < n ∧ ∃ i σ' H', Inv X pins σ' H' s7 ∧ tn i s7.heap ∧ (∀ b ∈ fp, H' b = none) ∧ W i m σ' H' := fun {σ7 H7} I7 n7 => by
      obtain ⟨m', hm, w7⟩ := hN σ7 H7 n7
      refine ⟨m', hm, i + 1, σ7, H7, I7.unpinned, T.keep _ _ _ st5 fun b hb o e => (I7.pin (b, o) (List.mem_append_right _ (List.mem_append_right _ (mem_pinsAt hb e)))).1, fun b hb => ?_, w7⟩
      obtain ⟨o, e, d⟩ := T.obj _ _ st5 b hb
      exact (I7.pin (b, o) (List.mem_append_right _ (List.mem_append_right _ (mem_pinsAt hb e)))).2.1
    cases f with
    | next => obtain ⟨σ7, H7, I7, n7⟩ := q7; exact again I7 n7
    | cont => obtain ⟨σ7, H7, I7, n7⟩ := q7; exact again I7 n7
    | brk => obtain ⟨σ7, H7, I7, q7⟩ := q7; exact ⟨σ7, H7, I7.unpinned, q7⟩
    | ret v => obtain ⟨x7, σ7, H7, I7, r7, q7⟩ := q7; exact ⟨x7, σ7, H7, I7.unpinned, r7, q7⟩
end
theorem for_list {K : PySem.W.Frag} {a : Addr} {xs : List V} {g : TG} {tb : TS} {D : Ends} {σ : St} {H : Hp} (Pv : Nat → St → Hp → Prop) (h0 : Pv 0 σ H) (hl : ∀ i σ H, i ≤ xs.length → Pv i σ H → SqL K H a xs)
    (hs : ∀ i x σ H, xs[i]? = some x → Pv i σ H → g x σ H fun σ2 H2 => tb { D with nx := Pv (i + 1), ct := Pv (i + 1), bk := D.nx } σ2 H2) (hd : ∀ σ H, Pv xs.length σ H → D.nx σ H) :
    ∃ W : Nat → Nat → St → Hp → Prop, (∃ m, W 0 m σ H) ∧ ∀ i m σ H, W i m σ H →
      ((Itl K a).stop i H ∧ D.nx σ H) ∨ ((Itl K a).go i H ∧ ∃ N : St → Hp → Prop, (∀ σ' H', N σ' H' → ∃ m', m' < m ∧ W (i + 1) m' σ' H') ∧ ∀ x H', (Itl K a).yld i H x H' → g x σ H' fun σ2 H2 => tb { D with nx := N, ct := N, bk := D.nx } σ2 H2) := by
  refine ⟨fun i m σ H => m = xs.length - i ∧ i ≤ xs.length ∧ Pv i σ H, ⟨xs.length, by simp, Nat.zero_le _, h0⟩, ?_⟩
  rintro i m σ H ⟨rfl, hi, p⟩
  have q := hl i σ H hi p
  by_cases hlt : i < xs.length
  · refine .inr ⟨⟨xs, xs[i], q, by simp [hlt]⟩, Pv (i + 1), fun σ' H' p' => ⟨xs.length - (i + 1), by omega, rfl, hlt, p'⟩, fun x H' y => ?_⟩
    obtain ⟨e, y⟩ := y
    subst e
    exact hs i x σ _ (y xs q) p
  · have e : i = xs.length := by omega
    subst e
    exact .inl ⟨⟨xs, q, Nat.le_refl _⟩, hd σ H p⟩
theorem for_range {lo : Int} {n : Nat} {g : TG} {tb : TS} {D : Ends} {σ : St} {H : Hp} (Pv : Nat → St → Hp → Prop) (h0 : Pv 0 σ H)
    (hs : ∀ i σ H, i < n → Pv i σ H → g (.int (lo + i)) σ H fun σ2 H2 => tb { D with nx := Pv (i + 1), ct := Pv (i + 1), bk := D.nx } σ2 H2) (hd : ∀ σ H, Pv n σ H → D.nx σ H) :
    ∃ W : Nat → Nat → St → Hp → Prop, (∃ m, W 0 m σ H) ∧ ∀ i m σ H, W i m σ H →
      ((Itr lo n).stop i H ∧ D.nx σ H) ∨ ((Itr lo n).go i H ∧ ∃ N : St → Hp → Prop, (∀ σ' H', N σ' H' → ∃ m', m' < m ∧ W (i + 1) m' σ' H') ∧ ∀ x H', (Itr lo n).yld i H x H' → g x σ H' fun σ2 H2 => tb { D with nx := N, ct := N, bk := D.nx } σ2 H2) := by
  refine ⟨fun i m σ H => m = n - i ∧ i ≤ n ∧ Pv i σ H, ⟨n, by simp, Nat.zero_le _, h0⟩, ?_⟩
  rintro i m σ H ⟨rfl, hi, p⟩
  by_cases hlt : i < n
  · refine .inr ⟨hlt, Pv (i + 1), fun σ' H' p' => ⟨n - (i + 1), by omega, rfl, hlt, p'⟩, fun x H' y => ?_⟩
    obtain ⟨e, y⟩ := y
    subst e y
    exact hs i σ _ hlt p
  · have e : i = n := by omega
    subst e
    exact .inl ⟨Nat.le_refl _, hd σ H p⟩
end L2
namespace L2
open PySem PySem.Spec PyProof.Rows
abbrev R2 := V → V → Hp → VK → Prop
def OpR (X : Cx) (f : Value → Value → Sem Value) (r : R2) : Prop :=
  ∀ (pins : List (Addr × Obj)) (s : Shared) (σ : St) (H : Hp) (x y : V) (v u : Value) (Q : VK), Inv X pins σ H s → RelV x v → RelV y u → r x y H Q →
    wpAny (model X.prog X.w) X.A (f v u) (EP X pins σ Q) X.xe s
def UnR (X : Cx) (f : Value → Sem Value) (r : V → Hp → VK → Prop) : Prop :=
  ∀ (pins : List (Addr × Obj)) (s : Shared) (σ : St) (H : Hp) (x : V) (v : Value) (Q : VK), Inv X pins σ H s → RelV x v → r x H Q →
    wpAny (model X.prog X.w) X.A (f v) (EP X pins σ Q) X.xe s
def CallR (X : Cx) (f : Value) (r : List V → Hp → VK → Prop) : Prop :=
  ∀ (pins : List (Addr × Obj)) (s : Shared) (σ : St) (H : Hp) (xs : List V) (us : List Value) (Q : VK), Inv X pins σ H s → Vals xs us → r xs H Q →
    wpAny (model X.prog X.w) X.A (call f us) (EP X pins σ Q) X.xe s
def tOp (r : R2) (ta tb : TE) : TE := fun σ H Q => ta σ H fun x H1 => tb σ H1 fun y H2 => r x y H2 Q
def tUn (r : V → Hp → VK → Prop) (ta : TE) : TE := fun σ H Q => ta σ H fun x H1 => r x H1 Q
def rI (C : Int → Int → Prop) (g : Int → Int → V) : R2 := fun x y H Q => ∃ i j, x = .int i ∧ y = .int j ∧ C i j ∧ Q (g i j) H
def rI0 (g : Int → Int → V) : R2 := fun x y H Q => ∃ i j, x = .int i ∧ y = .int j ∧ Q (g i j) H
def rU (g : Int → V) : V → Hp → VK → Prop := fun x H Q => ∃ i, x = .int i ∧ Q (g i) H
section
variable {X : Cx} {a b c : Expr} {ta tb tc : TE} {pos : Pos}
theorem binT (ha : PE X a ta) (hb : PE X b tb) {pins : List (Addr × Obj)} {s : Shared} {σ : St} {H : Hp} {R : V → V → Hp → Prop} (I : Inv X pins σ H s)
    (h : ta σ H fun x H1 => tb σ H1 fun y H2 => R x y H2) {Q : Value → Shared → Prop} {f : Value → Value → Sem Value}
    (hf : ∀ v u s2 x y H2, Inv X pins σ H2 s2 → RelV x v → RelV y u → R x y H2 → wpAny (model X.prog X.w) X.A (f v u) Q X.xe s2) :
    wpAny (model X.prog X.w) X.A (eval a X.env) (fun v s₁ => wpAny (model X.prog X.w) X.A (eval b X.env) (fun u s₂ => wpAny (model X.prog X.w) X.A (f v u) Q X.xe s₂) X.xe s₁) X.xe s := by
  refine thn (ha pins s σ H _ I h) fun v s1 hm0 => ?_
  obtain ⟨x, H1, I1, r1, q1⟩ := hm0
  refine thn (hb pins s1 σ H1 _ I1 q1) fun u s2 hm0 => ?_
  obtain ⟨y, H2, I2, r2, q2⟩ := hm0
  exact hf v u s2 x y H2 I2 r1 r2 q2
theorem pe_op {op : Operator} {r : R2} (ho : OpR X (binaryOp op) r) (ha : PE X a ta) (hb : PE X b tb) : PE X (.BinOp a op b pos) (tOp r ta tb) := by
  intro pins s σ H Q I h
  exact wpAny_BinOp (binT ha hb I h fun v u s2 x y H2 I2 rx ry q => ho pins s2 σ H2 x y v u Q I2 rx ry q)
theorem pe_un {op : UnaryOp} {r : V → Hp → VK → Prop} (ho : UnR X (unaryOp op) r) (ha : PE X a ta) : PE X (.UnaryOp op a pos) (tUn r ta) := by
  intro pins s σ H Q I h
  refine UnaryOp_ (thn (ha pins s σ H _ I h) fun v s1 hm0 => ?_)
  obtain ⟨x, H1, I1, r1, q1⟩ := hm0
  exact ho pins s1 σ H1 x v Q I1 r1 q1
theorem opI {f : Value → Value → Sem Value} {C : Int → Int → Prop} {g : Int → Int → Int}
    (rule : ∀ (i j : Int) (t u : Tok) (s : Shared) (Q : Value → Shared → Prop) (E : Value → Shared → Prop), C i j → Q (.int (g i j) s.toks) { s with toks := s.toks + 1 } → wpAny (model X.prog X.w) X.A (f (.int i t) (.int j u)) Q E s) :
    OpR X f (rI C fun i j => .int (g i j)) := by
  intro pins s σ H x y v u Q I rx ry h
  obtain ⟨i, j, rfl, rfl, hc, q⟩ := h
  obtain ⟨t, rfl⟩ := rx
  obtain ⟨t', rfl⟩ := ry
  exact rule i j t t' s _ _ hc ⟨.int (g i j), H, I.tok _, ⟨_, rfl⟩, q⟩
theorem opI0 {f : Value → Value → Sem Value} {g : Int → Int → Int}
    (rule : ∀ (i j : Int) (t u : Tok) (s : Shared) (Q : Value → Shared → Prop) (E : Value → Shared → Prop), Q (.int (g i j) s.toks) { s with toks := s.toks + 1 } → wpAny (model X.prog X.w) X.A (f (.int i t) (.int j u)) Q E s) :
    OpR X f (rI0 fun i j => .int (g i j)) := by
  intro pins s σ H x y v u Q I rx ry h
  obtain ⟨i, j, rfl, rfl, q⟩ := h
  obtain ⟨t, rfl⟩ := rx
  obtain ⟨t', rfl⟩ := ry
  exact rule i j t t' s _ _ ⟨.int (g i j), H, I.tok _, ⟨_, rfl⟩, q⟩
theorem opB0 {f : Value → Value → Sem Value} {g : Int → Int → Bool}
    (rule : ∀ (i j : Int) (t u : Tok) (s : Shared) (Q : Value → Shared → Prop) (E : Value → Shared → Prop), Q (.bool (g i j)) s → wpAny (model X.prog X.w) X.A (f (.int i t) (.int j u)) Q E s) :
    OpR X f (rI0 fun i j => .bl (g i j)) := by
  intro pins s σ H x y v u Q I rx ry h
  obtain ⟨i, j, rfl, rfl, q⟩ := h
  obtain ⟨t, rfl⟩ := rx
  obtain ⟨t', rfl⟩ := ry
  exact rule i j t t' s _ _ ⟨.bl (g i j), H, I, rfl, q⟩
def CDiv (i j : Int) : Prop := 0 < j ∧ j < 1073741824
def CPow (i j : Int) : Prop := 0 ≤ j ∧ j ≤ 1000000 ∧ i.natAbs < 2 ^ 64
def CMul (i j : Int) : Prop := (-(2 ^ 64) < i ∧ i < 2 ^ 64) ∨ (-(2 ^ 64) < j ∧ j < 2 ^ 64)
theorem CMul.ok {i j : Int} (h : CMul i j) : IntMulOk i j := by
  rcases h with ⟨h1, h2⟩ | ⟨h1, h2⟩
  · exact .of_left (intBits_le_64 h1 h2)
  · exact .of_right (intBits_le_64 h1 h2)
theorem op_add : OpR X (binaryOp .Add) (rI0 fun i j => .int (i + j)) := opI0 fun _ _ _ _ _ _ _ q => add_int q
theorem op_sub : OpR X (binaryOp .Sub) (rI0 fun i j => .int (i - j)) := opI0 fun _ _ _ _ _ _ _ q => sub_int q
theorem op_mul : OpR X (binaryOp .Mult) (rI CMul fun i j => .int (i * j)) := opI fun _ _ _ _ _ _ _ hc q => mul_int q hc.ok
theorem op_fdiv : OpR X (binaryOp .FloorDiv) (rI CDiv fun i j => .int (i / j)) := opI fun i j _ _ _ _ _ hc q => by
  have h1 : (0 : Int) < j := hc.1
  have h2 : j < 1073741824 := hc.2
  exact floordiv_int (by omega) (by rw [Int.fdiv_eq_ediv_of_nonneg i (by omega)]; exact q) (.inl (PyProof.noPylong_small (by omega)))
theorem op_mod : OpR X (binaryOp .Mod) (rI (fun _ j => 0 < j) fun i j => .int (i % j)) := opI fun i j _ _ _ _ _ hc q => by
  have h1 : (0 : Int) < j := hc
  exact mod_int' (by omega) (by rw [Int.fmod_eq_emod_of_nonneg i (by omega)]; exact q)
theorem op_pow : OpR X (binaryOp .Pow) (rI CPow fun i j => .int (i ^ j.toNat)) := opI fun _ _ _ _ _ _ _ hc q => pow_int_small hc.1 hc.2.1 hc.2.2 q
theorem unI {f : Value → Sem Value} {g : Int → Int}
    (rule : ∀ (i : Int) (t : Tok) (s : Shared) (Q : Value → Shared → Prop) (E : Value → Shared → Prop), Q (.int (g i) s.toks) { s with toks := s.toks + 1 } → wpAny (model X.prog X.w) X.A (f (.int i t)) Q E s) :
    UnR X f (rU fun i => .int (g i)) := by
  intro pins s σ H x v Q I rx h
  obtain ⟨i, rfl, q⟩ := h
  obtain ⟨t, rfl⟩ := rx
  exact rule i t s _ _ ⟨.int (g i), H, I.tok _, ⟨_, rfl⟩, q⟩
theorem un_neg : UnR X (unaryOp .USub) (rU fun i => .int (-i)) := unI fun _ _ _ _ _ q => neg_int q
end
def scal : V → V → Bool
  | .non, .non => true | .non, .int _ => true | .int _, .non => true | .non, .bl _ => true | .bl _, .non => true | .non, .str _ => true | .str _, .non => true
  | .int _, .int _ => true | .bl _, .bl _ => true | .str _, .str _ => true | .byt _, .byt _ => true
  | .int _, .str _ => true | .str _, .int _ => true | .bl _, .str _ => true | .str _, .bl _ => true
  | _, _ => false
def rEq : R2 := fun x y H Q => scal x y = true ∧ Q (.bl (decide (x = y))) H
def rNe : R2 := fun x y H Q => scal x y = true ∧ Q (.bl (!decide (x = y))) H
theorem dec_int {i j : Int} : decide (V.int i = V.int j) = (i == j) := by
  rw [Bool.eq_iff_iff]
  simp
theorem dec_bl {i j : Bool} : decide (V.bl i = V.bl j) = (i == j) := by
  rw [Bool.eq_iff_iff]
  simp
theorem dec_str {i j : Str} : decide (V.str i = V.str j) = (i == j) := by
  rw [Bool.eq_iff_iff]
  simp
theorem dec_byt {i j : Array UInt8} : decide (V.byt i = V.byt j) = (i.toList == j.toList) := by
  rw [Bool.eq_iff_iff]
  cases i
  cases j
  simp
section
variable {X : Cx} {a b c : Expr} {ta tb tc : TE} {pos : Pos}
theorem fin_bl {pins : List (Addr × Obj)} {σ : St} {H : Hp} {s : Shared} {Q : VK} {k k' : Bool} (I : Inv X pins σ H s) (q : Q (.bl k) H) (e : k = k') : EP X pins σ Q (.bool k') s := by
  subst e
  exact ⟨.bl k, H, I, rfl, q⟩
theorem op_eq : OpR X (compareOp .Eq) rEq := by
  intro pins s σ H x y v u Q I rx ry h
  obtain ⟨hs, q⟩ := h
  cases x with
  | non =>
    cases rx
    cases y with
    | non => cases ry; exact PySem.EqNone.eq_none_none (fin_bl I q (by simp))
    | bl j => cases ry; exact PySem.EqNone.eq_none_bool (fin_bl I q (by simp))
    | int j => obtain ⟨t', rfl⟩ := ry; exact PySem.EqNone.eq_none_int (fin_bl I q (by simp))
    | str j => obtain ⟨t', rfl⟩ := ry; exact PySem.EqNone.eq_none_str (fin_bl I q (by simp))
    | _ => exact absurd (show false = true from hs) Bool.false_ne_true
  | bl i =>
    cases rx
    cases y with
    | non => cases ry; exact PySem.EqNone.eq_bool_none (fin_bl I q (by simp))
    | bl j => cases ry; exact eq_bool (fin_bl I q dec_bl)
    | str j => obtain ⟨t', rfl⟩ := ry; exact PySem.EqMixed.eq_bool_str (fin_bl I q (by simp))
    | _ => exact absurd (show false = true from hs) Bool.false_ne_true
  | int i =>
    obtain ⟨t, rfl⟩ := rx
    cases y with
    | non => cases ry; exact PySem.EqNone.eq_int_none (fin_bl I q (by simp))
    | int j => obtain ⟨t', rfl⟩ := ry; exact eq_int (fin_bl I q dec_int)
    | str j => obtain ⟨t', rfl⟩ := ry; exact PySem.EqMixed.eq_int_str (fin_bl I q (by simp))
    | _ => exact absurd (show false = true from hs) Bool.false_ne_true
  | str i =>
    obtain ⟨t, rfl⟩ := rx
    cases y with
    | non => cases ry; exact PySem.EqNone.eq_str_none (fin_bl I q (by simp))
    | bl j => cases ry; exact PySem.EqMixed.eq_str_bool (fin_bl I q (by simp))
    | int j => obtain ⟨t', rfl⟩ := ry; exact PySem.EqMixed.eq_str_int (fin_bl I q (by simp))
    | str j => obtain ⟨t', rfl⟩ := ry; exact eq_str (fin_bl I q dec_str)
    | _ => exact absurd (show false = true from hs) Bool.false_ne_true
  | byt i =>
    obtain ⟨t, rfl⟩ := rx
    cases y with
    | byt j => obtain ⟨t', rfl⟩ := ry; exact PySem.W.eq_bytes (fin_bl I q dec_byt)
    | _ => exact absurd (show false = true from hs) Bool.false_ne_true
  | _ => cases y <;> exact absurd (show false = true from hs) Bool.false_ne_true
theorem op_ne : OpR X (compareOp .NotEq) rNe := by
  intro pins s σ H x y v u Q I rx ry h
  obtain ⟨hs, q⟩ := h
  cases x with
  | non =>
    cases rx
    cases y with
    | non => cases ry; exact PySem.EqNone.ne_none_none (fin_bl I q (by simp))
    | bl j => cases ry; exact PySem.EqNone.ne_none_bool (fin_bl I q (by simp))
    | int j => obtain ⟨t', rfl⟩ := ry; exact PySem.EqNone.ne_none_int (fin_bl I q (by simp))
    | str j => obtain ⟨t', rfl⟩ := ry; exact PySem.EqNone.ne_none_str (fin_bl I q (by simp))
    | _ => exact absurd (show false = true from hs) Bool.false_ne_true
  | bl i =>
    cases rx
    cases y with
    | non => cases ry; exact PySem.EqNone.ne_bool_none (fin_bl I q (by simp))
    | bl j => cases ry; exact ne_bool (fin_bl I q (congrArg not dec_bl))
    | str j => obtain ⟨t', rfl⟩ := ry; exact PySem.EqMixed.ne_bool_str (fin_bl I q (by simp))
    | _ => exact absurd (show false = true from hs) Bool.false_ne_true
  | int i =>
    obtain ⟨t, rfl⟩ := rx
    cases y with
    | non => cases ry; exact PySem.EqNone.ne_int_none (fin_bl I q (by simp))
    | int j => obtain ⟨t', rfl⟩ := ry; exact ne_int (fin_bl I q (congrArg not dec_int))
    | str j => obtain ⟨t', rfl⟩ := ry; exact PySem.EqMixed.ne_int_str (fin_bl I q (by simp))
    | _ => exact absurd (show false = true from hs) Bool.false_ne_true
  | str i =>
    obtain ⟨t, rfl⟩ := rx
    cases y with
    | non => cases ry; exact PySem.EqNone.ne_str_none (fin_bl I q (by simp))
    | bl j => cases ry; exact PySem.EqMixed.ne_str_bool (fin_bl I q (by simp))
    | int j => obtain ⟨t', rfl⟩ := ry; exact PySem.EqMixed.ne_str_int (fin_bl I q (by simp))
    | str j => obtain ⟨t', rfl⟩ := ry; exact ne_str (fin_bl I q (congrArg not dec_str))
    | _ => exact absurd (show false = true from hs) Bool.false_ne_true
  | byt i =>
    obtain ⟨t, rfl⟩ := rx
    cases y with
    | byt j => obtain ⟨t', rfl⟩ := ry; exact PySem.W.ne_bytes (fin_bl I q (congrArg not dec_byt))
    | _ => exact absurd (show false = true from hs) Bool.false_ne_true
  | _ => cases y <;> exact absurd (show false = true from hs) Bool.false_ne_true
theorem op_lt : OpR X (compareOp .Lt) (rI0 fun i j => .bl (decide (i < j))) := opB0 fun _ _ _ _ _ _ _ q => lt_int q
theorem op_le : OpR X (compareOp .LtE) (rI0 fun i j => .bl (decide (i ≤ j))) := opB0 fun _ _ _ _ _ _ _ q => le_int q
theorem op_gt : OpR X (compareOp .Gt) (rI0 fun i j => .bl (decide (j < i))) := opB0 fun _ _ _ _ _ _ _ q => gt_int q
theorem nomark (b : Expr) {op : CmpOp} (h : op ≠ .In := by decide) (h2 : op ≠ .NotIn := by decide) : behindInMarks op b = false := by
  have e1 : (op == CmpOp.In) = false := by cases op <;> first | rfl | exact absurd rfl h
  have e2 : (op == CmpOp.NotIn) = false := by cases op <;> first | rfl | exact absurd rfl h2
  cases b <;> simp [behindInMarks, e1, e2]
theorem pe_cmpR {op : CmpOp} {r : R2} (ho : OpR X (compareOp op) r) (ha : PE X a ta) (hb : PE X b tb) (hm : behindInMarks op b = false) : PE X (.Compare a [op] [b] pos) (tOp r ta tb) := by
  intro pins s σ H Q I h
  exact wpAny_Compare1 (binT ha hb I h fun v u s2 x y H2 I2 rx ry q => ho pins s2 σ H2 x y v u Q I2 rx ry q) hm
def tTest (t : TE) : TT := fun σ H Q => t σ H fun x H' => ∃ k, x = .bl k ∧ Q k H'
theorem pt_cmpR {op : CmpOp} {r : R2} (ho : OpR X (compareOp op) r) (ha : PE X a ta) (hb : PE X b tb) (hm : behindInMarks op b = false) : PT X (.Compare a [op] [b] pos) (tTest (tOp r ta tb)) := by
  intro pins s σ H Q I h
  refine wpAny_isTrue_Compare1 (thn (ha pins s σ H _ I h) fun v s1 ⟨x, H1, I1, r1, q1⟩ => thn (hb pins s1 σ H1 _ I1 q1) fun u s2 ⟨y, H2, I2, r2, q2⟩ =>
    thn (ho pins s2 σ H2 x y v u _ I2 r1 r2 q2) fun c s3 ⟨z, H3, I3, r3, k, e, q3⟩ => ?_) hm
  subst e
  cases r3
  exact wpAny_truthy_bool ⟨H3, I3, q3⟩
def tChain (r r' : R2) (ta tb tc : TE) : TE := fun σ H Q => ta σ H fun x H1 => tb σ H1 fun y H2 => r x y H2 fun z H3 => ∃ k, z = .bl k ∧
  (if k = true then tc σ H3 fun w' H4 => r' y w' H4 Q else Q (.bl false) H3)
theorem pe_chain {op op' : CmpOp} {r r' : R2} (ho : OpR X (compareOp op) r) (ho' : OpR X (compareOp op') r') (ha : PE X a ta) (hb : PE X b tb) (hc : PE X c tc)
    (hm : lastMarks [op, op'] [b, c] = false := by with_unfolding_all rfl) : PE X (.Compare a [op, op'] [b, c] pos) (tChain r r' ta tb tc) := by
  intro pins s σ H Q I h
  refine Compare_chain (thn (ha pins s σ H _ I h) fun v s1 ⟨x, H1, I1, r1, q1⟩ => chain_link (thn (hb pins s1 σ H1 _ I1 q1) fun u s2 ⟨y, H2, I2, r2, q2⟩ =>
    thn (ho pins s2 σ H2 x y v u _ I2 r1 r2 q2) fun d s3 ⟨z, H3, I3, r3, k, e, q3⟩ => ?_)) hm
  subst e
  cases r3
  refine wpAny_truthy_bool ?_
  cases k with
  | false => exact ite_ff ⟨.bl false, H3, I3, rfl, q3⟩
  | true => exact ite_tt (chain_last (thn (hc pins s3 σ H3 _ I3 q3) fun w' s4 ⟨z', H4, I4, r4, q4⟩ => ho' pins s4 σ H4 y z' u w' Q I4 r2 r4 q4))
theorem line63 : (sizeLine : Nat) < 2 ^ 63 := by rw [sizeLine_eq]; decide
theorem vals1 {x : V} {us : List Value} (r : Vals [x] us) : ∃ u, us = [u] ∧ RelV x u := by
  cases r with
  | cons r1 r2 => cases r2; exact ⟨_, rfl, r1⟩
end
end L2
namespace L2
open PySem PySem.Spec PyProof.Rows
structure ObjM (h : Heap) (x dx C : Addr) (mA : Str → Option Value) : Prop where
  obj : h.get? x = some (PySem.W.instObj C dx)
  ns : h.Ns1 dx mA
  ne : dx ≠ x
theorem lookIn_ns {h : Heap} {dx : Addr} {mA : Str → Option Value} (n : h.Ns1 dx mA) : ∃ od, h.get? dx = some od ∧ ∀ name, PySem.W.lookIn name od = some (mA name) := by
  obtain ⟨o, es, ep, ho, hd, hk, _, hm⟩ := n
  refine ⟨o, ho, fun name => ?_⟩
  have e := hm name
  unfold nsFind findBy at e
  rw [← Array.find?_toList] at e
  unfold PySem.W.lookIn
  rw [hd]
  dsimp only
  split
  · rename_i y q
    rw [q] at e
    exact congrArg some e
  · rename_i q
    rw [q] at e
    have a : es.toList.any (·.refKey) = false := by
      rw [List.any_eq_false]
      intro y hy
      obtain ⟨z, t, hkey⟩ := hk y (Array.mem_toList_iff.mp hy)
      simp [DictEntry.refKey, hkey]
    have a' : ¬ es.toList.any (·.refKey) = true := by rw [a]; exact Bool.false_ne_true
    rw [if_neg a']
    exact congrArg some e
theorem ObjM.look {h : Heap} {x dx C : Addr} {mA : Str → Option Value} (I : ObjM h x dx C mA) : ∃ od, PySem.W.InstAt h x (PySem.W.instObj C dx) C (some od) ∧ ∀ name, PySem.W.lookIn name od = some (mA name) :=
  let ⟨od, ho, hl⟩ := lookIn_ns I.ns
  ⟨od, ⟨I.obj, rfl, rfl, ho⟩, hl⟩
section
variable {prog : Program} {w : World} {A : Around} {E : Value → Shared → Prop} {s : Shared} {K : PySem.W.Frag} {x dx C f : Addr} {mA : Str → Option Value} {name : Str} {v : Value}
theorem get_map {expr : Bool} {Q : Value → Shared → Prop} (X : K.In s.heap) (I : ObjM s.heap x dx C mA) (hg : PySem.W.plainGet K C name = true) (hh : PySem.W.hasDictIn K C = true)
    (ha : PySem.W.findIn K (.ref C) name = some none) (hv : mA name = some v) (hv' : PySem.W.handedIn v = true) (h : Q v { s with toks := s.toks + 1 }) :
    wpAny (model prog w) A (getAttr (.ref x) name expr) Q E s := by
  obtain ⟨od, J, hl⟩ := I.look
  exact PySem.W.get_value X J (PySem.W.plainGet_of hg).1 (PySem.W.findObj_own hh ha rfl (by rw [hl, hv])) hv' h
theorem get_meth {pl : Sem Bool} {Q : Value × List Value → Shared → Prop} (X : K.In s.heap) (I : ObjM s.heap x dx C mA) (hg : PySem.W.plainGet K C name = true)
    (hf : PySem.W.findIn K (.ref C) name = some (some (.ref f))) (ht : PySem.W.isFn K (.ref f) = true) (hv : mA name = none) (h : Q (.ref f, [.ref x]) s) :
    wpAny (model prog w) A (getMethod (.ref x) name pl) Q E s := by
  obtain ⟨od, J, hl⟩ := I.look
  exact PySem.W.method_fn X J (PySem.W.plainGet_of hg).1 (PySem.W.plainGet_of hg).2 hf (beq_iff_eq.mp ht) (by show (PySem.W.lookIn name od).map (·.isSome) = some false; rw [hl, hv]; rfl) h
theorem set_map {ns : List Str} {Q : Unit → Shared → Prop} (X : K.In s.heap) (I : ObjM s.heap x dx C mA)
    (hs : PySem.W.findIn K (.ref C) "__setattr__" = some (some (.builtin "object.__setattr__"))) (hp : PySem.W.plainOver K C = true) (ht : PySem.W.takerIn K C name = some none) (hh : PySem.W.hasDictIn K C = true)
    (hw : PySem.Within mA ns) (hsz : ns.length ≤ sizeLine)
    (h : ∀ h', ObjM h' x dx C (fun y => if y = name then some v else mA y) → Heap.SameBut dx s.heap h' → Q () { s with heap := h', toks := s.toks + 2 }) :
    wpAny (model prog w) A (setAttr (.ref x) name v) Q E s := by
  obtain ⟨od, J, hl⟩ := I.look
  refine PySem.W.set_plain X J hs (PySem.W.osa_open (s := { s with toks := s.toks + 1 }) (r := none) X J hp ht fun b => ?_)
  obtain ⟨cd, hc, hd'⟩ := PySem.W.any_some hh
  have hx : s.heap.get? x = some ⟨.ref C, some dx, .plain, #[]⟩ := I.obj
  refine wpAny_bind (wpAny_pure (wpAny_bind (wpAny_bind (wpAny_loadPart hx (wpAny_bind (PySem.W.Looks.here (s := { s with toks := s.toks + 1 }) (PySem.W.looks_clsIn X hc) ?_))))))
  rw [hd']
  refine wpAny_pure (a := some dx) (wpAny_bind (wpAny_pure (wpAny_bind ?_)))
  refine wpAny_nsSet1 (s := { s with toks := s.toks + 1 }) I.ns fun h' hn2 hs2 => ?_
  obtain ⟨oD, esD, epD, hoD, hdD, hcD⟩ := hn2.count (PySem.Within.cons name v hw)
  refine wpAny_bind (wpAny_lookBehind hoD (by rw [hdD]; exact pastItsLine_dict (Nat.le_trans hcD (by rw [List.length_cons]; omega))) ?_)
  exact wpAny_pure (h _ ⟨(hs2.2 _ (Ne.symm I.ne)).trans I.obj, hn2, I.ne⟩ hs2)
theorem make_map {R : Result → Shared → Prop} {vs : List Value} {kw : List (Str × Value)} (X : K.In s.heap) (hm : PySem.W.makesIn K C = true)
    (hi : PySem.W.findIn K (.ref C) "__init__" = some (some (.ref f))) (hf : PySem.W.typeIn K (.ref f) = some (.type "function"))
    (h : codeAny (model prog w) (A.under (.builtin "type.__call__" ⟨.ref C :: vs, kw⟩)) (.call (.ref f) ⟨.ref (s.heap.objs.size + 1) :: vs, kw⟩) (PySem.W.InitBack (s.heap.objs.size + 1) R)
      { s with heap := (s.heap.push PySem.W.emptyDict).push (PySem.W.instObj C s.heap.objs.size) }) :
    codeAny (model prog w) A (.call (.ref C) ⟨vs, kw⟩) R s := by
  obtain ⟨hh, g, d, t, os⟩ := s
  exact PySem.W.make_core (PySem.W.makes_of X hm) (PySem.W.looks_findIn X hi) (fun self => PySem.W.bind_fn X self hf) (.inl rfl) h
end
def putF (f : Str) (v : V) : List (Str × V) → List (Str × V)
  | [] => [(f, v)]
  | (g, x) :: r => if g = f then (g, v) :: r else (g, x) :: putF f v r
theorem lookup_putF (f g : Str) (v : V) : ∀ fs : List (Str × V), (putF f v fs).lookup g = if g = f then some v else fs.lookup g
  | [] => by
    show List.lookup g [(f, v)] = _
    by_cases h : g = f
    · have hb : (g == f) = true := beq_iff_eq.mpr h
      simp only [List.lookup, hb, if_pos h]
    · have hb : (g == f) = false := beq_eq_false_iff_ne.mpr h
      simp only [List.lookup, hb, if_neg h]
  | (k, x) :: r => by
    have ih := lookup_putF f g v r
    rw [show putF f v ((k, x) :: r) = (if k = f then (k, v) :: r else (k, x) :: putF f v r) from rfl]
    by_cases hk : k = f
    · rw [if_pos hk]
      by_cases h : g = k
      · have hb : (g == k) = true := beq_iff_eq.mpr h
        simp only [List.lookup, hb, if_pos (h.trans hk)]
      · have hb : (g == k) = false := beq_eq_false_iff_ne.mpr h
        simp only [List.lookup, hb, if_neg (fun e : g = f => h (e.trans hk.symm))]
    · rw [if_neg hk]
      by_cases h : g = k
      · have hb : (g == k) = true := beq_iff_eq.mpr h
        simp only [List.lookup, hb, if_neg (fun e : g = f => hk (h.symm.trans e))]
      · have hb : (g == k) = false := beq_eq_false_iff_ne.mpr h
        simp only [List.lookup, hb]
        exact ih
theorem keys_putF (f : Str) (v : V) : ∀ fs : List (Str × V), f ∈ (putF f v fs).map (·.1) ∧ ∀ g, g ∈ fs.map (·.1) → g ∈ (putF f v fs).map (·.1)
  | [] => ⟨by simp [putF], fun g h => by simp at h⟩
  | (k, x) :: r => by
    obtain ⟨i1, i2⟩ := keys_putF f v r
    rw [show putF f v ((k, x) :: r) = (if k = f then (k, v) :: r else (k, x) :: putF f v r) from rfl]
    by_cases hk : k = f
    · rw [if_pos hk]
      subst hk
      exact ⟨by simp, fun g h => by simpa using h⟩
    · rw [if_neg hk]
      refine ⟨?_, fun g h => ?_⟩
      · rw [List.map_cons]
        exact List.mem_cons_of_mem _ i1
      · rw [List.map_cons] at h ⊢
        rcases List.mem_cons.mp h with e | e
        · exact List.mem_cons.mpr (.inl e)
        · exact List.mem_cons_of_mem _ (i2 g e)
theorem length_putF (f : Str) (v : V) : ∀ fs : List (Str × V), (putF f v fs).length ≤ fs.length + 1
  | [] => by simp [putF]
  | (k, x) :: r => by
    have ih := length_putF f v r
    rw [show putF f v ((k, x) :: r) = (if k = f then (k, v) :: r else (k, x) :: putF f v r) from rfl]
    by_cases hk : k = f
    · rw [if_pos hk, List.length_cons, List.length_cons]; omega
    · rw [if_neg hk, List.length_cons, List.length_cons]; omega
theorem RelO.some_of {v : V} {o : Option Value} (r : RelO (some v) o) : ∃ u, o = some u ∧ RelV v u := by
  cases o with
  | none => exact (show False from r).elim
  | some u => exact ⟨u, rfl, r⟩
theorem RelO.none_of {o : Option Value} (r : RelO none o) : o = none := by
  cases o with
  | none => rfl
  | some u => exact (show False from r).elim
theorem handed_of {v : V} {u : Value} (r : RelV v u) : PySem.W.handedIn u = true := by
  cases v with
  | non => cases (show u = Value.none from r); rfl
  | bl b => cases (show u = Value.bool b from r); rfl
  | int i => obtain ⟨t, e⟩ := (show ∃ t, u = Value.int i t from r); cases e; rfl
  | str x => obtain ⟨t, e⟩ := (show ∃ t, u = Value.str x t from r); cases e; rfl
  | byt b => obtain ⟨t, e⟩ := (show ∃ t, u = Value.bytes b t from r); cases e; rfl
  | flt b => obtain ⟨t, e⟩ := (show ∃ t, u = Value.float b t from r); cases e; rfl
  | ref a => cases (show u = Value.ref a from r); rfl
  | ty n => cases (show u = Value.type n from r); rfl
section
variable {P : Program} {w : World} {H H' : Hp} {h h' : Heap} {a C dx : Addr} {fs fs' : List (Str × V)}
theorem ins_get (hok : HOk P w H h) (e : H a = some (.ins C dx fs)) : ∃ mA, ObjM h a dx C mA ∧ (∀ f, RelO (fs.lookup f) (mA f)) ∧ PySem.Within mA (fs.map (·.1)) ∧ fs.length ≤ 1000 ∧ H dx = some (.own a) := by
  obtain ⟨d, z, ne, ob, mA, n, r, q⟩ := (show ObjOk P w H h a (.ins C dx fs) from hok a _ e)
  exact ⟨mA, ⟨ob, n, ne⟩, r, q, z, d⟩
end
structure Cls (K : PySem.W.Frag) (C : Addr) : Prop where
  pg : PySem.W.plainGet K C Str.empty = true
  hd : PySem.W.hasDictIn K C = true
  po : PySem.W.plainOver K C = true
  sa : PySem.W.findIn K (.ref C) "__setattr__" = some (some (.builtin "object.__setattr__"))
theorem Cls.get {K : PySem.W.Frag} {C : Addr} (c : Cls K C) (f : Str) : PySem.W.plainGet K C f = true := c.pg
def NoAttr (K : PySem.W.Frag) (C : Addr) (f : Str) : Prop := PySem.W.findIn K (.ref C) f = some none
theorem NoAttr.taker {K : PySem.W.Frag} {C : Addr} {f : Str} (n : NoAttr K C f) : PySem.W.takerIn K C f = some none := by
  unfold PySem.W.takerIn
  rw [show PySem.W.findIn K (.ref C) f = some none from n]
  rfl
structure Meth (K : PySem.W.Frag) (C : Addr) (m : Str) (f : Addr) : Prop where
  at_ : PySem.W.findIn K (.ref C) m = some (some (.ref f))
  fn : PySem.W.isFn K (.ref f) = true
  kp : PySem.W.keepIn K (.ref f) = true
section
variable {X : Cx} {pins : List (Addr × Obj)} {σ : St} {H : Hp} {s : Shared} {a C dx : Addr} {fs : List (Str × V)} {f : Str} {v : V} {A : Around} {E : Value → Shared → Prop}
theorem getattr_ok {b : Bool} {Q : Value → Shared → Prop} (I : Inv X pins σ H s) (e : H a = some (.ins C dx fs)) (c : Cls X.K C) (n : NoAttr X.K C f) (l : fs.lookup f = some v)
    (h : ∀ u s', Inv X pins σ H s' → RelV v u → Q u s') : wpAny (model X.prog X.w) A (getAttr (.ref a) f b) Q E s := by
  obtain ⟨mA, O, r, _, _, _⟩ := ins_get I.hok e
  obtain ⟨u, hu, ru⟩ := RelO.some_of (v := v) (o := mA f) (by rw [← l]; exact r f)
  exact get_map I.kIn O (c.get f) c.hd n hu (handed_of ru) (h u _ (I.tok _) ru)
theorem getmeth_ok {m : Str} {g : Addr} {pl : Sem Bool} {Q : Value × List Value → Shared → Prop} (I : Inv X pins σ H s) (e : H a = some (.ins C dx fs)) (c : Cls X.K C) (k : Meth X.K C m g) (l : fs.lookup m = none)
    (h : Q (.ref g, [.ref a]) s) : wpAny (model X.prog X.w) A (getMethod (.ref a) m pl) Q E s := by
  obtain ⟨mA, O, r, _, _, _⟩ := ins_get I.hok e
  have hn : mA m = none := RelO.none_of (by rw [← l]; exact r m)
  exact get_meth I.kIn O (c.get m) k.at_ k.fn hn h
theorem setattr_ok {y : V} {u : Value} {Q : Unit → Shared → Prop} (I : Inv X pins σ H s) (e : H a = some (.ins C dx fs)) (c : Cls X.K C) (n : NoAttr X.K C f) (hl : fs.length < 1000) (ry : RelV y u)
    (h : ∀ s', Inv X pins σ (upd H a (.ins C dx (putF f y fs))) s' → Q () s') : wpAny (model X.prog X.w) A (setAttr (.ref a) f u) Q E s := by
  obtain ⟨mA, O, r, wi, _, ho⟩ := ins_get I.hok e
  have hz : (fs.map (·.1)).length ≤ sizeLine := by rw [List.length_map, sizeLine_eq]; omega
  refine set_map I.kIn O c.sa c.po n.taker c.hd wi hz fun h' O' sb => h _ ?_
  have hd : ∃ o, h'.get? dx = some o := let ⟨o, _, _, e', _⟩ := O'.ns; ⟨o, e'⟩
  refine I.write (x := a) (e := dx) (by rw [e]; exact True.intro) (.inr ho) (fun b q hb z => (sb.2 b hb).trans z) hd ?_
  refine ⟨by rw [upd_ne O.ne]; exact ho, ?_, O.ne, O'.obj, _, O'.ns, fun g => ?_, fun g hg => ?_⟩
  · have := length_putF f y fs; omega
  · show RelO ((putF f y fs).lookup g) (if g = f then some u else mA g)
    rw [lookup_putF]
    by_cases q : g = f
    · rw [if_pos q, if_pos q]; exact ry
    · rw [if_neg q, if_neg q]; exact r g
  · by_cases q : g = f
    · rw [q]; exact (keys_putF f y fs).1
    · refine (keys_putF f y fs).2 g (wi g fun z => hg ?_)
      show (if g = f then some u else mA g) = none
      rw [if_neg q]; exact z
theorem Inv.made (I : Inv X pins σ H s) : Inv X pins σ (upd (upd H s.heap.objs.size (.own (s.heap.objs.size + 1))) (s.heap.objs.size + 1) (.ins C s.heap.objs.size []))
    { s with heap := (s.heap.push PySem.W.emptyDict).push (PySem.W.instObj C s.heap.objs.size) } := by
  have e1 : (s.heap.push PySem.W.emptyDict).get? s.heap.objs.size = some PySem.W.emptyDict := Heap.get?_push_size s.heap rfl
  have e2 : ((s.heap.push PySem.W.emptyDict).push (PySem.W.instObj C s.heap.objs.size)).get? (s.heap.objs.size + 1) = some (PySem.W.instObj C s.heap.objs.size) := by
    have := Heap.get?_push_size (s.heap.push PySem.W.emptyDict) (o := PySem.W.instObj C s.heap.objs.size) rfl
    rwa [Heap.size_push] at this
  have e3 : (s.heap.push PySem.W.emptyDict).Ns s.heap.objs.size (fun _ => none) := ⟨PySem.W.emptyDict, #[], _, e1, rfl, (fun e he => absurd he (by simp)), fun _ => rfl⟩
  have I1 := I.laid (a := s.heap.objs.size) (o := .own (s.heap.objs.size + 1)) (h' := s.heap.push PySem.W.emptyDict) (t' := s.toks) (fun b u q => Heap.get?_push_of_some _ q) (Nat.le_refl _) ⟨_, e1⟩
  refine I1.laid (a := s.heap.objs.size + 1) (o := .ins C s.heap.objs.size []) (t' := s.toks) (fun b u q => Heap.get?_push_of_some _ q) (Nat.le_of_eq (Heap.size_push _ _)) ?_
  have ne : s.heap.objs.size ≠ s.heap.objs.size + 1 := Nat.ne_of_lt (Nat.lt_succ_self _)
  refine ⟨by rw [upd_ne ne, upd_same], Nat.zero_le _, ne, e2, fun _ => none, (Heap.Ns1.of_empty e3).at fun o q => Heap.get?_push_of_some _ q, fun _ => True.intro, fun y hy => absurd rfl hy⟩
theorem attr_of {prog : Program} {w : World} {env : Env} {e : Expr} {f : Str} {pos : Pos} {s : Shared} {Q : Value → Shared → Prop} (hb : attributeBase e f env (eval e env) = eval e env)
    (h : wpAny (model prog w) A (eval e env) (fun o s₁ => wpAny (model prog w) A (getAttr o f true) Q E s₁) E s) : wpAny (model prog w) A (eval (.Attribute e f pos) env) Q E s :=
  Attribute_any_ h (by rw [arm_eval_Attribute, hb])
end
def tFld (K : PySem.W.Frag) (ta : TE) (f : Str) : TE := fun σ H Q => ta σ H fun x H1 => ∃ a C dx fs v, x = .ref a ∧ H1 a = some (.ins C dx fs) ∧ Cls K C ∧ NoAttr K C f ∧ fs.lookup f = some v ∧ Q v H1
def sFld (K : PySem.W.Frag) (ta tv : TE) (f : Str) : TS := fun D σ H => tv σ H fun y H1 => ta σ H1 fun x H2 => ∃ a C dx fs, x = .ref a ∧ H2 a = some (.ins C dx fs) ∧ Cls K C ∧ NoAttr K C f ∧ fs.length < 1000 ∧
  D.nx σ (upd H2 a (.ins C dx (putF f y fs)))
section
variable {X : Cx} {o e value : Expr} {f : Str} {pos pos' tpos : Pos} {ta tv : TE}
theorem pe_fld (he : PE X e ta) (hb : attributeBase e f X.env (eval e X.env) = eval e X.env) : PE X (.Attribute e f pos) (tFld X.K ta f) := by
  intro pins s σ H Q I h
  refine attr_of hb (thn (he pins s σ H _ I h) fun u s1 hm0 => ?_)
  obtain ⟨x, H1, I1, rx, a, C, dx, fs, v, ex, ea, c, n, l, q⟩ := hm0
  subst ex
  obtain rfl : u = Value.ref a := rx
  exact getattr_ok I1 ea c n l fun u' s2 I2 ru => ⟨v, H1, I2, ru, q⟩
theorem ps_fld (ha : PE X o ta) (hv : PE X value tv) (hs : swapsWith value (some (.Attribute o f pos')) pos.line X.env = pure false) : PS X (.Assign [.Attribute o f pos'] value pos) (sFld X.K ta tv f) := by
  intro pins s σ H D I h
  refine plainObj_wpAny_Assign_Attribute (thn (hv pins s σ H _ I h) fun u s1 hm0 => ?_) hs
  obtain ⟨y, H1, I1, ry, q⟩ := hm0
  refine thn (ha pins s1 σ H1 _ I1 q) fun ov s2 hm1 => ?_
  obtain ⟨x, H2, I2, rx, a, C, dx, fs, ex, ea, c, n, l, q2⟩ := hm1
  subst ex
  obtain rfl : ov = Value.ref a := rx
  exact setattr_ok I2 ea c n l ry fun s3 I3 => ⟨σ, _, I3, q2⟩
end
section
variable {X : Cx} {pins : List (Addr × Obj)} {σ : St} {H : Hp} {s : Shared} {A : Around} {E : Value → Shared → Prop} {Q : Value → Shared → Prop} {c : Value} {b : Bool}
inductive TyOf (K : PySem.W.Frag) (H : Hp) : V → Value → Prop where
  | non : TyOf K H .non (.type "NoneType")
  | bl (x : Bool) : TyOf K H (.bl x) (.type "bool")
  | int (i : Int) : TyOf K H (.int i) (.type "int")
  | str (x : Str) : TyOf K H (.str x) (.type "str")
  | flt (x : UInt64) : TyOf K H (.flt x) (.type "float")
  | lst {a : Addr} {xs : List V} (e : H a = some (.lst xs)) : TyOf K H (.ref a) (.type "list")
  | frz {a : Addr} {o : Obj} {xs : List V} (e : H a = some (.frz o (.lst xs))) : TyOf K H (.ref a) (.type "list")
  | tup {a : Addr} {xs : List V} (e : H a = some (.tup xs)) : TyOf K H (.ref a) (.type "tuple")
  | dK {a : Addr} {kvs : List (Key × V)} (e : H a = some (.dK kvs)) : TyOf K H (.ref a) (.type "dict")
  | dT {a : Addr} {kvs : List (List Key × V)} (e : H a = some (.dT kvs)) : TyOf K H (.ref a) (.type "dict")
  | ins {a C dx : Addr} {fs : List (Str × V)} (e : H a = some (.ins C dx fs)) (cl : Cls K C) (ha : PySem.W.findIn K (.ref C) "__class__" = some (some (.builtin "object.__class__")))
      (hn : PySem.W.specialIn K (.builtin "object.__class__") "__get__" = some (some (.builtin "getset_descriptor.__get__"))) (htk : PySem.W.takesIn K (.builtin "object.__class__") = some true)
      (hm : PySem.W.mroIn K C (.type "object") = some true) : TyOf K H (.ref a) (.ref C)
theorem isinst_ok {x : V} {u t : Value} (I : Inv X pins σ H s) (rx : RelV x u) (ty : TyOf X.K H x t) (e : PySem.W.kitOne X.K t c = some b) (h : ∀ tk, Q (.bool b) { s with toks := tk }) :
    wpAny (model X.prog X.w) A (call (.builtin "isinstance") [u, c]) Q E s := by
  cases ty with
  | non => cases (show u = Value.none from rx); exact PySem.W.kia_one PySem.W.kitx_none I.kIn True.intro e (fun z => nomatch z) h
  | bl y => cases (show u = Value.bool y from rx); exact PySem.W.kia_one PySem.W.kitx_bool I.kIn True.intro e (fun z => nomatch z) h
  | int i => obtain ⟨t, q⟩ := (show ∃ t, u = Value.int i t from rx); cases q; exact PySem.W.kia_one PySem.W.kitx_int I.kIn True.intro e (fun z => nomatch z) h
  | str y => obtain ⟨t, q⟩ := (show ∃ t, u = Value.str y t from rx); cases q; exact PySem.W.kia_one PySem.W.kitx_str I.kIn True.intro e (fun z => nomatch z) h
  | flt y => obtain ⟨t, q⟩ := (show ∃ t, u = Value.float y t from rx); cases q; exact PySem.W.kia_one PySem.W.kitx_float I.kIn True.intro e (fun z => nomatch z) h
  | @lst a xs ea =>
    cases (show u = Value.ref a from rx)
    obtain ⟨_, _, n, _, h1⟩ := (show ObjOk X.prog X.w H s.heap a (.lst xs) from I.hok a _ ea)
    exact PySem.W.kia_one PySem.W.kitx_list I.kIn ⟨_, h1, rfl⟩ e (fun z => nomatch z) h
  | @frz a ob xs ea =>
    cases (show u = Value.ref a from rx)
    obtain ⟨_, _, _, n, _, h1⟩ := (show ObjOk X.prog X.w H s.heap a (.frz ob (.lst xs)) from I.hok a _ ea)
    exact PySem.W.kia_one PySem.W.kitx_list I.kIn ⟨_, h1, rfl⟩ e (fun z => nomatch z) h
  | @tup a xs ea =>
    cases (show u = Value.ref a from rx)
    obtain ⟨_, _, _, p⟩ := (show ObjOk X.prog X.w H s.heap a (.tup xs) from I.hok a _ ea)
    obtain ⟨o, h1, h2, _⟩ := p
    exact PySem.W.kia_one PySem.W.kitx_tuple I.kIn ⟨o, h1, h2⟩ e (fun z => nomatch z) h
  | @dK a kvs ea =>
    cases (show u = Value.ref a from rx)
    obtain ⟨_, _, vs, _, p⟩ := (show ObjOk X.prog X.w H s.heap a (.dK kvs) from I.hok a _ ea)
    obtain ⟨o, es, ep, h1, h2, _⟩ := p
    exact PySem.W.kia_one PySem.W.kitx_dict I.kIn ⟨o, h1, h2.1⟩ e (fun z => nomatch z) h
  | @dT a kvs ea =>
    cases (show u = Value.ref a from rx)
    obtain ⟨_, _, xs, _, o, es, ep, h1, h2, _⟩ := (show ObjOk X.prog X.w H s.heap a (.dT kvs) from I.hok a _ ea)
    exact PySem.W.kia_one PySem.W.kitx_dict I.kIn ⟨o, h1, h2.1⟩ e (fun z => nomatch z) h
  | @ins a C dx fs ea cl ha hn htk hm =>
    cases (show u = Value.ref a from rx)
    obtain ⟨mA, O, _⟩ := ins_get I.hok ea
    obtain ⟨od, J, _⟩ := O.look
    exact PySem.W.kia_one (PySem.W.kitx_own (cl.get _) cl.hd ha hn htk hm) I.kIn J e (fun z => nomatch z) h
end
end L2
namespace L2
open PySem PySem.Spec PyProof.Rows
structure Room (k : Nat) (A : Around) : Prop where
  hd : A.handled = none
  dp : A.depth + 3 * k + 5 < recursionLimit
  un : A.units + 16 * k + 200 < cLine
theorem Room.mono {j k : Nat} {A : Around} (r : Room k A) (h : j ≤ k) : Room j A := ⟨r.hd, by have := r.dp; omega, by have := r.un; omega⟩
theorem Room.deeper {k : Nat} {A : Around} (r : Room (k + 1) A) (env : Env) : Room k (A.deeper env) :=
  ⟨r.hd, by have := r.dp; show A.depth + 1 + 3 * k + 5 < _; omega, by have := r.un; show A.units + 3 + 16 * k + 200 < _; omega⟩
theorem make_depth {A : Around} {C : Addr} {us : List Value} {kw : List (Str × Value)} : (A.under (.builtin "type.__call__" ⟨.ref C :: us, kw⟩)).depth = A.depth + 1 := by
  first | rfl | simp [Around.under, Code.weight, Code.isCreation, Code.isGuard, Code.isCaller, Code.frames, Code.isFrame, guardIds]
theorem make_units {A : Around} {C : Addr} {us : List Value} {kw : List (Str × Value)} : (A.under (.builtin "type.__call__" ⟨.ref C :: us, kw⟩)).units = A.units + 1 := by
  first | rfl | simp [Around.under, Code.cUnits, Code.frames, Code.isFrame]
theorem Room.make {k : Nat} {A : Around} (r : Room (k + 1) A) (C : Addr) (us : List Value) (kw : List (Str × Value)) : Room k (A.under (.builtin "type.__call__" ⟨.ref C :: us, kw⟩)) :=
  ⟨r.hd, by have := r.dp; rw [make_depth]; omega, by have := r.un; rw [make_units]; omega⟩
theorem Room.depth {k : Nat} {A : Around} (r : Room k A) : A.depth < recursionLimit := by have := r.dp; omega
theorem Room.units {k : Nat} {A : Around} (r : Room k A) : A.units + 64 < cLine := by have := r.un; omega
def tNil : TA := fun _ H Q => Q [] H
def tCons (ta : TE) (tr : TA) : TA := fun σ H Q => ta σ H fun x H1 => tr σ H1 fun xs H2 => Q (x :: xs) H2
section
variable {X : Cx} {e : Expr} {es : List Expr} {te : TE} {t : TA} {pos : Pos}
theorem pa_nil : PA X [] tNil := fun _ _ _ _ H Q I h => Calls.spliced_nil ⟨[], H, I, .nil, h⟩
theorem pa_cons (ha : PE X e te) (hr : PA X es t) (hs : starEach (e :: es) X.env = (false, eval e X.env) :: starEach es X.env := by rfl) : PA X (e :: es) (tCons te t) := by
  intro pos pins s σ H Q I h
  rw [hs]
  show wpAny _ _ (spliced ((false, eval e X.env) :: backTo pos (starEach es X.env))) _ _ s
  refine Calls.spliced_cons (thn (ha pins s σ H _ I h) fun u s1 hm0 => ?_)
  obtain ⟨x, H1, I1, r1, q1⟩ := hm0
  refine thn (hr pos pins s1 σ H1 _ I1 q1) fun us s2 hm0 => ?_
  obtain ⟨xs, H2, I2, r2, q2⟩ := hm0
  exact ⟨x :: xs, H2, I2, .cons r1 r2, q2⟩
def tTup (t : TA) : TE := fun σ H Q => t σ H fun xs H1 => xs.length ≤ sizeLine ∧ ∀ p, H1 p = none → Q (.ref p) (upd H1 p (.tup xs))
def tLst (t : TA) : TE := fun σ H Q => t σ H fun xs H1 => xs.length ≤ sizeLine ∧ ∀ p, H1 p = none → Q (.ref p) (upd H1 p (.lst xs))
theorem pe_tup {x1} (h : PA X es t) : PE X (.Tuple es x1 pos) (tTup t) := by
  intro pins s σ H Q I hq
  refine wpAny_Tuple_spliced (thn (h pos pins s σ H _ I hq) fun us s1 hm0 => ?_)
  obtain ⟨xs, H1, I1, r, z, q⟩ := hm0
  refine ⟨by rw [← r.length]; exact z, ?_⟩
  have hf : H1 s1.heap.objs.size = none := I1.hok.fresh (Nat.le_refl _)
  refine ⟨.ref s1.heap.objs.size, upd H1 s1.heap.objs.size (.tup xs), I1.laid (t' := s1.toks) (fun b u e => Heap.get?_push_of_some _ e) (Nat.le_refl _) ?_, rfl, q _ hf⟩
  exact ⟨z, us, r, ⟨_, Heap.get?_push_size _ rfl, rfl, _, rfl⟩⟩
theorem pe_lst (h : PA X es t) : PE X (.List es pos) (tLst t) := by
  intro pins s σ H Q I hq
  refine wpAny_List_spliced (thn (h pos pins s σ H _ I hq) fun us s1 hm0 => ?_)
  obtain ⟨xs, H1, I1, r, z, q⟩ := hm0
  refine ⟨by rw [← r.length]; exact z, ?_⟩
  have hf : H1 s1.heap.objs.size = none := I1.hok.fresh (Nat.le_refl _)
  refine ⟨.ref s1.heap.objs.size, upd H1 s1.heap.objs.size (.lst xs), I1.laid (t' := s1.toks) (fun b u e => Heap.get?_push_of_some _ e) (Nat.le_refl _) ?_, rfl, q _ hf⟩
  exact ⟨z, us, 0, r, Heap.get?_push_size _ rfl⟩
end
abbrev Sp := List V → Hp → VK → XK → Prop
abbrev CXT := List Env → Hp → Shared → XK → Value → Shared → Prop
structure Env0 (P : Program) (w : World) (K : PySem.W.Frag) (mg : Str → Option Value) (base : Heap) (A : Around) (outer : List Env) (s : Shared) (H : Hp) : Prop where
  frames : A.frames = some outer
  mod : Mod K mg base
  bs : ∀ b o, base.get? b = some o → s.heap.get? b = some o ∧ H b = none
  bsz : base.objs.size ≤ s.heap.objs.size
  funs : s.heap.FunFrames base outer
  frf : ∀ b ∈ frs outer, H b = none
  hok : HOk P w H s.heap
  bare : AllBare s.gens
def CE (outer : List Env) (P : Program) (w : World) (H : Hp) (s : Shared) (Q : VK) (u : Value) (s' : Shared) : Prop :=
  ∃ v H', s'.os = s.os ∧ AllBare s'.gens ∧ Un (frs outer) [] H H' s.heap s'.heap ∧ HOk P w H' s'.heap ∧ RelV v u ∧ Q v H'
def CR (CX : CXT) (outer : List Env) (P : Program) (w : World) (H : Hp) (s : Shared) (Q : VK) (E : XK) (r : Result) (s' : Shared) : Prop :=
  match r with
  | .ok (.ret u) => CE outer P w H s Q u s'
  | .ok _ => False
  | .error e => CX outer H s E e s'
structure FnOk (P : Program) (w : World) (K : PySem.W.Frag) (mg : Str → Option Value) (base : Heap) (CX : CXT) (k : Nat) (f : Addr) (fd : FuncData) (ps : List Str) (sp : Sp) : Prop where
  len : ∀ vs H Q E, sp vs H Q E → vs.length = ps.length
  run : ∀ (A : Around) (outer : List Env) (s : Shared) (H : Hp) (args : Args) (us : List Value) (vs : List V) (Q : VK) (E : XK), Room k A → Env0 P w K mg base A outer s H → BindsTo s fd args (ps.zip us) → Vals vs us → sp vs H Q E →
    codeAny (model P w) A (.call (.ref f) args) (CR CX outer P w H s Q E) s
theorem Env0.make {P : Program} {w : World} {K : PySem.W.Frag} {mg : Str → Option Value} {base : Heap} {A : Around} {outer : List Env} {s : Shared} {H : Hp} (e : Env0 P w K mg base A outer s H) (C : Addr) (us : List Value) (kw : List (Str × Value)) :
    Env0 P w K mg base (A.under (.builtin "type.__call__" ⟨.ref C :: us, kw⟩)) outer s H := ⟨by first | exact e.frames | (simpa [Around.under, Code.envs, Code.isFrame, pushEnvs] using e.frames), e.mod, e.bs, e.bsz, e.funs, e.frf, e.hok, e.bare⟩
section
variable {X : Cx} {pins : List (Addr × Obj)} {σ : St} {H : Hp} {s s' : Shared}
theorem Inv.env0 (I : Inv X pins σ H s) : Env0 X.prog X.w X.K X.mg X.base X.A X.stack s H :=
  ⟨I.ok.frames, I.ok.mod, I.bs, Nat.le_trans I.ok.bsz I.sz, I.stack, I.stkFree, I.hok, I.bare⟩
theorem Inv.after {Q : VK} {u : Value} (I : Inv X pins σ H s) (h : CE X.stack X.prog X.w H s Q u s') : EP X pins σ Q u s' := by
  obtain ⟨v, H', os, bare, un, hok, r, q⟩ := h
  obtain ⟨hh, g, d, t, os'⟩ := s'
  obtain rfl : os' = s.os := os
  exact ⟨v, H', I.call (h' := hh) (g' := g) (d' := d) (t' := t) (ch := []) un hok bare (fun b z => absurd z (by simp)), r, q⟩
end
def tCall (sp : Sp) (dvs : List V) (E : XK) (t : TA) : TE := fun σ H Q => t σ H fun vs H1 => sp (vs ++ dvs) H1 Q E
def tMeth (C : Addr) (m : Str) (sp : Sp) (dvs : List V) (E : XK) (ta : TE) (t : TA) : TE := fun σ H Q => ta σ H fun x H1 => ∃ a dx fs, x = .ref a ∧ H1 a = some (.ins C dx fs) ∧ fs.lookup m = none ∧
  t σ H1 fun vs H2 => sp (x :: (vs ++ dvs)) H2 Q E
def tMake (C : Addr) (sp : Sp) (dvs : List V) (E : XK) (t : TA) : TE := fun σ H Q => t σ H fun vs H1 => ∀ x dx, H1 x = none → H1 dx = none → dx ≠ x →
  sp (.ref x :: (vs ++ dvs)) (upd (upd H1 dx (.own x)) x (.ins C dx [])) (fun v H2 => v = .non ∧ Q (.ref x) H2) E
def Binds (K : PySem.W.Frag) (fd : FuncData) (ps : List Str) (ds : List Value) : Prop :=
  ∀ (s : Shared) (us : List Value), K.In s.heap → (us ++ ds).length = ps.length → BindsTo s fd ⟨us, []⟩ (ps.zip (us ++ ds))
theorem Binds.all {K : PySem.W.Frag} {fd : FuncData} {ps : List Str} (h : ∀ us : List Value, us.length = ps.length → bindArgs fd ⟨us, []⟩ = pure (ps.zip us)) : Binds K fd ps [] := fun s us _ hl => by
  rw [List.append_nil] at hl ⊢
  exact .of_eq (h us hl)
def Passes (CX : CXT) (X : Cx) (E : XK) : Prop := ∀ (pins : List (Addr × Obj)) (σ : St) (H : Hp) (s : Shared) (e : Value) (s' : Shared), Inv X pins σ H s → CX X.stack H s E e s' → X.xe e s'
section
variable {X : Cx} {CX : CXT} {k : Nat} {f C : Addr} {fd : FuncData} {ps : List Str} {sp : Sp} {dvs : List V} {ds : List Value} {E : XK} {x m : Str} {p pos apos : Pos} {e o : Expr} {es : List Expr} {ta : TE} {t : TA}
theorem run_fn {pins : List (Addr × Obj)} {σ : St} {H : Hp} {s : Shared} {Q : VK} {us : List Value} {vs : List V} (F : FnOk X.prog X.w X.K X.mg X.base CX k f fd ps sp) (hr : Room k X.A) (hb : Binds X.K fd ps ds) (hd : Vals dvs ds) (hx : Passes CX X E)
    (I : Inv X pins σ H s) (r : Vals vs us) (h : sp (vs ++ dvs) H Q E) : wpAny (model X.prog X.w) X.A (call (.ref f) us) (EP X pins σ Q) X.xe s := by
  have r2 : Vals (vs ++ dvs) (us ++ ds) := r.append hd
  have hl : (us ++ ds).length = ps.length := by rw [← r2.length]; exact F.len _ _ _ _ h
  refine wpAny_call (codeAny_mono (F.run X.A X.stack s H ⟨us, []⟩ (us ++ ds) (vs ++ dvs) Q E hr I.env0 (hb s us I.kIn hl) r2 h) fun r s' hq => ?_)
  cases r with
  | error e => exact hx pins σ H s e s' I hq
  | ok fl =>
    cases fl with
    | ret u => exact I.after hq
    | next => exact False.elim hq
    | brk => exact False.elim hq
    | cont => exact False.elim hq
theorem pe_call (F : FnOk X.prog X.w X.K X.mg X.base CX k f fd ps sp) (hr : Room k X.A) (hg : Gl X x) (hm : X.mg x = some (.ref f)) (hk : PySem.W.keepIn X.K (.ref f) = true) (hb : Binds X.K fd ps ds) (hd : Vals dvs ds) (hx : Passes CX X E)
    (ha : PA X (e :: es) t) (hdb : (x == ("__debug__" : Str)) = false := by decide) (he : starEach (e :: es) X.env = (false, eval e X.env) :: starEach es X.env := by rfl) (hpl : (backTo pos (starEach es X.env)).any (·.1) = false := by rfl) :
    PE X (.Call (.Name x p) (e :: es) [] pos) (tCall sp dvs E t) := by
  intro pins s σ H Q I h
  refine wpAny_Call_Name_kw (ld_glob I hg hm ?_ hdb)
  refine PySem.W.callWith_K (h₀ := X.base) I.ok.mod.kin hk (thn (ha pos pins s σ H _ I h) fun us s1 hm0 => ?_) he hpl
  obtain ⟨vs, H1, I1, r, q⟩ := hm0
  refine ⟨I1.kIn, ?_⟩
  exact run_fn F hr hb hd hx I1 r q
theorem pe_meth {pl : Sem Bool} (he : PE X o ta) (c : Cls X.K C) (hm : Meth X.K C m f) (F : FnOk X.prog X.w X.K X.mg X.base CX k f fd ps sp) (hr : Room k X.A) (hb : Binds X.K fd ps ds) (hd : Vals dvs ds) (hx : Passes CX X E) (ha : PA X (e :: es) t)
    (hst : starEach (e :: es) X.env = (false, eval e X.env) :: starEach es X.env := by rfl) (hpl : (backTo pos (starEach es X.env)).any (·.1) = false := by rfl)
    (ht : eval (.Call (.Attribute o m apos) (e :: es) [] pos) X.env = (do
      let ov ← eval o X.env
      standAt apos.atName
      let (f, first) ← holding [ov] (getMethod ov m pl)
      callWith pos f first (backTo pos (starEach (e :: es) X.env)) (backToKw pos (keywordEach [] X.env))) := by rfl) :
    PE X (.Call (.Attribute o m apos) (e :: es) [] pos) (tMeth C m sp dvs E ta t) := by
  intro pins s σ H Q I h
  refine PySem.W.methodCall_KW (pl := pl) (thn (he pins s σ H _ I h) fun u s1 hm0 => ?_) ht
  obtain ⟨x, H1, I1, rx, a, dx, fs, ex, ea, l, q⟩ := hm0
  subst ex
  obtain rfl : u = Value.ref a := rx
  refine getmeth_ok I1 ea c hm l ?_
  refine PySem.W.callWith_K (first := [.ref a]) (h₀ := X.base) I.ok.mod.kin hm.kp (thn (ha pos pins s1 σ H1 _ I1 q) fun us s2 hm0 => ?_) hst hpl
  obtain ⟨vs, H2, I2, r, q2⟩ := hm0
  refine ⟨I2.kIn, ?_⟩
  exact run_fn (us := .ref a :: us) (vs := .ref a :: vs) F hr hb hd hx I2 (.cons rfl r) q2
structure Mk (K : PySem.W.Frag) (C f : Addr) : Prop where
  makes : PySem.W.makesIn K C = true
  init : PySem.W.findIn K (.ref C) "__init__" = some (some (.ref f))
  fn : PySem.W.isFn K (.ref f) = true
  kp : PySem.W.keepIn K (.ref C) = true
theorem run_make {pins : List (Addr × Obj)} {σ : St} {H : Hp} {s : Shared} {Q : VK} {us : List Value} {vs : List V} (M : Mk X.K C f) (F : FnOk X.prog X.w X.K X.mg X.base CX k f fd ps sp) (hr : Room (k + 1) X.A) (hb : Binds X.K fd ps ds) (hd : Vals dvs ds)
    (hx : Passes CX X E) (I : Inv X pins σ H s) (r : Vals vs us)
    (h : ∀ x dx, H x = none → H dx = none → dx ≠ x → sp (.ref x :: (vs ++ dvs)) (upd (upd H dx (.own x)) x (.ins C dx [])) (fun v H2 => v = .non ∧ Q (.ref x) H2) E) :
    wpAny (model X.prog X.w) X.A (call (.ref C) us) (EP X pins σ Q) X.xe s := by
  have hq := h (s.heap.objs.size + 1) s.heap.objs.size (I.hok.fresh (Nat.le_succ _)) (I.hok.fresh (Nat.le_refl _)) (Nat.ne_of_lt (Nat.lt_succ_self _))
  have I2 := Inv.made (C := C) I
  have r2 : Vals (V.ref (s.heap.objs.size + 1) :: (vs ++ dvs)) (Value.ref (s.heap.objs.size + 1) :: (us ++ ds)) := .cons rfl (r.append hd)
  have hl : (Value.ref (s.heap.objs.size + 1) :: us ++ ds).length = ps.length := by
    have e := r2.length
    rw [F.len _ _ _ _ hq] at e
    exact e.symm
  refine wpAny_call (make_map (f := f) I.kIn M.makes M.init (beq_iff_eq.mp M.fn) (codeAny_mono (F.run _ X.stack _ _ ⟨Value.ref (s.heap.objs.size + 1) :: us, []⟩ (Value.ref (s.heap.objs.size + 1) :: (us ++ ds)) _ _ E (hr.make C us [])
    (I2.env0.make C us []) (hb _ (Value.ref (s.heap.objs.size + 1) :: us) I2.kIn hl) r2 hq) fun r s' hq' => ?_))
  cases r with
  | error e => exact hx pins σ _ _ e s' I2 hq'
  | ok fl =>
    cases fl with
    | ret u =>
      obtain ⟨v, H', I3, rv, ev, q3⟩ := I2.after hq'
      subst ev
      exact ⟨rv, ⟨V.ref (s.heap.objs.size + 1), H', I3, rfl, q3⟩⟩
    | next => exact False.elim hq'
    | brk => exact False.elim hq'
    | cont => exact False.elim hq'
theorem pe_make (M : Mk X.K C f) (F : FnOk X.prog X.w X.K X.mg X.base CX k f fd ps sp) (hr : Room (k + 1) X.A) (hg : Gl X x) (hm : X.mg x = some (.ref C)) (hb : Binds X.K fd ps ds) (hd : Vals dvs ds) (hx : Passes CX X E)
    (ha : PA X (e :: es) t) (hdb : (x == ("__debug__" : Str)) = false := by decide) (he : starEach (e :: es) X.env = (false, eval e X.env) :: starEach es X.env := by rfl) (hpl : (backTo pos (starEach es X.env)).any (·.1) = false := by rfl) :
    PE X (.Call (.Name x p) (e :: es) [] pos) (tMake C sp dvs E t) := by
  intro pins s σ H Q I h
  refine wpAny_Call_Name_kw (ld_glob I hg hm ?_ hdb)
  refine PySem.W.callWith_K (h₀ := X.base) I.ok.mod.kin M.kp (thn (ha pos pins s σ H _ I h) fun us s1 hm0 => ?_) he hpl
  obtain ⟨vs, H1, I1, r, q⟩ := hm0
  refine ⟨I1.kIn, ?_⟩
  exact run_make M F hr hb hd hx I1 r q
end
section
variable {X : Cx} {CX : CXT} {k : Nat} {f C : Addr} {fd : FuncData} {ps ks : List Str} {sp : Sp} {E : XK} {x m : Str} {p pos apos kpos : Pos} {e o : Expr} {es : List Expr} {kws : List Keyword} {te ta : TE} {t tk : TA} {nm : Option Str}
variable {g : List Value → List Value → List Value} {gV : List V → List V → List V}
end
structure FnScope (N P : List Str) (sc : Scope) : Prop where
  kind : sc.kind = .function
  co : sc.isCoroutine = false
  gen : sc.isGenerator = false
  nd : N.Nodup
  pre : N.take P.length = P
  par : ∀ x ∈ P, sc.names.lookup x = some .local ∨ sc.names.lookup x = some .cell
  nofree : ∀ y ∈ sc.names, y.2 ≠ .free
theorem bindL_out {kindOf : Str → Option NameKind} {x : Str} : ∀ {binds : List (Str × Value)} {m : Str → Option Value}, (∀ v, (x, v) ∉ binds) → bindL kindOf binds m x = m x
  | [], _, _ => rfl
  | (n, v) :: r, m, h => by
    unfold bindL
    rw [bindL_out fun w hw => h w (List.mem_cons_of_mem _ hw)]
    split
    · have : x ≠ n := by rintro rfl; exact h v List.mem_cons_self
      simp [this]
    · rfl
theorem bindC_out {kindOf : Str → Option NameKind} {x : Str} : ∀ {binds : List (Str × Value)} {m : Str → Option Value}, (∀ v, (x, v) ∉ binds) → bindC kindOf binds m x = m x
  | [], _, _ => rfl
  | (n, v) :: r, m, h => by
    unfold bindC
    rw [bindC_out fun w hw => h w (List.mem_cons_of_mem _ hw)]
    split
    · rfl
    · have : x ≠ n := by rintro rfl; exact h v List.mem_cons_self
      simp [this]
theorem bindL_get {kindOf : Str → Option NameKind} {x : Str} {v : Value} : ∀ {P : List Str} {vs : List Value} {i : Nat} {m : Str → Option Value}, P.Nodup → P[i]? = some x → vs[i]? = some v → kindOf x = some .local →
    bindL kindOf (P.zip vs) m x = some v
  | [], _, _, _, _, h, _, _ => by simp at h
  | _ :: _, [], _, _, _, _, h, _ => by simp at h
  | p :: P, w :: vs, 0, m, nd, h1, h2, hk => by
    simp at h1 h2; subst h1; subst h2
    show bindL kindOf ((p, w) :: P.zip vs) m p = _
    unfold bindL
    rw [bindL_out fun v hv => (List.nodup_cons.mp nd).1 (List.of_mem_zip hv).1, if_pos hk]
    simp
  | p :: P, w :: vs, i + 1, m, nd, h1, h2, hk => by
    show bindL kindOf ((p, w) :: P.zip vs) m x = _
    unfold bindL
    exact bindL_get (i := i) (List.nodup_cons.mp nd).2 (by simpa using h1) (by simpa using h2) hk
theorem bindC_get {kindOf : Str → Option NameKind} {x : Str} {v : Value} : ∀ {P : List Str} {vs : List Value} {i : Nat} {m : Str → Option Value}, P.Nodup → P[i]? = some x → vs[i]? = some v → kindOf x ≠ some .local →
    bindC kindOf (P.zip vs) m x = some v
  | [], _, _, _, _, h, _, _ => by simp at h
  | _ :: _, [], _, _, _, _, h, _ => by simp at h
  | p :: P, w :: vs, 0, m, nd, h1, h2, hk => by
    simp at h1 h2; subst h1; subst h2
    show bindC kindOf ((p, w) :: P.zip vs) m p = _
    unfold bindC
    rw [bindC_out fun v hv => (List.nodup_cons.mp nd).1 (List.of_mem_zip hv).1, if_neg hk]
    simp
  | p :: P, w :: vs, i + 1, m, nd, h1, h2, hk => by
    show bindC kindOf ((p, w) :: P.zip vs) m x = _
    unfold bindC
    exact bindC_get (i := i) (List.nodup_cons.mp nd).2 (by simpa using h1) (by simpa using h2) hk
def start (N : List Str) (vs : List V) : St := vs.map some ++ List.replicate (N.length - vs.length) none
def cxOf (CX : CXT) (P : Program) (w : World) (K : PySem.W.Frag) (mg : Str → Option Value) (base : Heap) (N : List Str) (qual : Str) (scope : Scope) (f : Addr) (cd : Value) (A : Around) (outer : List Env) (s : Shared) (H : Hp) (E : XK) : Cx where
  prog := P
  w := w
  K := K
  mg := mg
  base := base
  A := A.deeper (envOfC qual scope s.heap.objs.size f cd)
  N := N
  s₀ := s
  H₀ := H
  env := envOfC qual scope s.heap.objs.size f cd
  outer := outer
  stack := envOfC qual scope s.heap.objs.size f cd :: outer
  ex := []
  calm := true
  fn := fun _ => true
  pn := []
  xe := fun e s' => wpAny (model P w) (A.deeper (envOfC qual scope s.heap.objs.size f cd)) (leaving (envOfC qual scope s.heap.objs.size f cd) e) (fun _ s'' => CX outer H s E e s'') (fun e' s'' => CX outer H s E e' s'') s'
theorem cell_has {sc : Scope} {n : Nat} {x : Str} (h : sc.names.lookup x = some .cell) : ∃ c, (cellsFrom n sc.names []).lookup x = some c := by
  have q := PySem.W.cellsFrom_some sc.names n [] (.inl h)
  exact Option.isSome_iff_exists.mp q
theorem inv_start {CX : CXT} {P : Program} {w : World} {K : PySem.W.Frag} {mg : Str → Option Value} {base : Heap} {N ps : List Str} {qual : Str} {scope : Scope} {f : Addr} {cd : Value} {A : Around} {outer : List Env} {s s1 : Shared} {H : Hp} {E : XK} {us : List Value} {vs : List V}
    (S : FnScope N ps scope) (hd : A.handled = none) (e0 : Env0 P w K mg base A outer s H) (hl : vs.length = ps.length) (r : Vals vs us)
    (x : InCallC s s.heap.objs.size (bindL (envOfC qual scope s.heap.objs.size f cd).kindOf (ps.zip us) fun _ => none) (cellsFrom (s.heap.objs.size + 1) scope.names []) (bindC (envOfC qual scope s.heap.objs.size f cd).kindOf (ps.zip us) fun _ => none) s1) :
    Inv (cxOf CX P w K mg base N qual scope f cd A outer s H E) [] (start N vs) H s1 := by
  have hpl : ps.length ≤ N.length := by have := congrArg List.length S.pre; rw [List.length_take] at this; omega
  obtain ⟨h1, tk, rfl, hk⟩ := x.done
  have noA : ∀ b : Addr, b ∉ (cxOf CX P w K mg base N qual scope f cd A outer s H E).ex := fun b z => absurd (show b ∈ ([] : List Addr) from z) (by simp)
  refine ⟨⟨e0.mod, S.kind, rfl, rfl, Nat.le_refl _, fun y z c h1 h2 => ?_, fun y hy => ?_, fun y c _ h => ?_, fun _ => hd, Around.frames_deeper e0.frames, .inr ⟨rfl, rfl⟩, fun b z => absurd z (noA b), e0.bs, e0.bsz, fun b _ _ => noA b, fun b z => absurd z (noA b), e0.funs, e0.frf⟩,
    rfl, e0.bare, Un.kept hk, ⟨_, x.toInCall.ns, fun i y v h1 h2 h3 => ?_⟩, fun y c h => ⟨_, x.cell y c h⟩, e0.hok.fresh (Nat.le_refl _), fun y c h => ?_, fun p hp => absurd (show p ∈ ([] : List (Addr × Obj)) from hp) (by simp), e0.hok.kept hk, ?_⟩
  · exact name_of_addr x.apart (PySem.mem_of_lookup h1) (PySem.mem_of_lookup h2)
  · have hy : scope.names.lookup y = some .cell ∨ scope.names.lookup y = some .free := hy
    rcases hy with hy | hy
    · exact cell_has hy
    · exact absurd rfl (S.nofree _ (PySem.mem_of_lookup hy))
  · exact Nat.le_of_lt (x.above y c (PySem.mem_of_lookup h))
  · have hi : i < vs.length := by
      unfold start at h2
      by_cases hi : i < vs.length
      · exact hi
      · rw [List.getElem?_append_right (by simpa using hi)] at h2
        rw [List.getElem?_replicate] at h2
        split at h2 <;> cases h2
    have ha : vs[i]? = some v := by
      unfold start at h2
      rw [List.getElem?_append_left (by simpa using hi), List.getElem?_map] at h2
      cases e : vs[i]? with
      | none => rw [e] at h2; cases h2
      | some a => rw [e] at h2; cases h2; rfl
    obtain ⟨u, hu, rv⟩ := r.get ha
    have hp : ps[i]? = some y := by
      rw [← S.pre, List.getElem?_take_of_lt (by omega)]; exact h1
    have ndP : ps.Nodup := by rw [← S.pre]; exact S.nd.sublist (List.take_sublist _ _)
    refine ⟨u, rv, ?_⟩
    rcases S.par y (List.mem_of_getElem? hp) with k | k
    · exact .inl ⟨k, bindL_get ndP hp hu k⟩
    · obtain ⟨c, e⟩ := cell_has (n := s.heap.objs.size + 1) k
      refine .inr ⟨.inl k, c, e, ?_⟩
      have q := x.cell y c e
      rw [bindC_get ndP hp hu (by show scope.names.lookup y ≠ _; rw [k]; decide)] at q
      exact q
  · exact e0.hok.fresh (Nat.le_of_lt (x.above y c (PySem.mem_of_lookup h)))
  · unfold start
    show _ = N.length
    rw [List.length_append, List.length_map, List.length_replicate]
    omega
theorem fn_of {CX : CXT} {P : Program} {w : World} {K : PySem.W.Frag} {mg : Str → Option Value} {base : Heap} {k : Nat} {f : Addr} {name qual : Str} {params : Arguments} {body : List Stmt} {scope : Scope} {dV kV doc pm cdv ct oc : Value} {an od : Option Addr}
    {osl : Array (Option Value)} {N ps : List Str} {sp : Sp} (lk : K.lookup f = some ⟨oc, od, .func (PySem.W.fnOf name qual params body scope dV kV doc pm an cdv ct), osl⟩) (hcd : PySem.W.codeIn K cdv qual = true) (S : FnScope N ps scope)
    (len : ∀ vs H Q E, sp vs H Q E → vs.length = ps.length)
    (hbody : ∀ (A : Around) (outer : List Env) (s : Shared) (H : Hp) (vs : List V) (Q : VK) (E : XK), Room k (A.deeper (envOfC qual scope s.heap.objs.size f cdv)) → sp vs H Q E →
      ∃ t, PSs (cxOf CX P w K mg base N qual scope f cdv A outer s H E) body t ∧ t { nx := fun _ H' => Q .non H', rt := Q } (start N vs) H) :
    FnOk P w K mg base CX (k + 1) f (PySem.W.fnOf name qual params body scope dV kV doc pm an cdv ct) ps sp := by
  refine ⟨len, fun A outer s H args us vs Q E hr e0 hb r hsp => ?_⟩
  have hl := len _ _ _ _ hsp
  have KX : K.In s.heap := e0.mod.kin.keeps fun b o e => (e0.bs b o e).1
  have lim : s.heap.NoLimit := e0.mod.nolimit.keeps fun b o e => (e0.bs b o e).1
  have hkind : ∀ y ∈ ps.zip us, scope.names.lookup y.1 = some .local ∨ (scope.names.lookup y.1 = some .cell ∧ ((cellsFrom (s.heap.objs.size + 1) scope.names []).lookup y.1).isSome = true) := fun ⟨n, v⟩ hy => by
    rcases S.par n (List.of_mem_zip hy).1 with q | q
    · exact .inl q
    · exact .inr ⟨q, PySem.W.cellsFrom_some _ _ _ (.inl q)⟩
  refine codeAny_call_function hr.depth (KX _ _ lk) rfl S.co S.gen rfl (PySem.W.codeRec_of KX hcd) (hb _ _ _ _ ?_)
  refine wpAny_newFunctionEnv_cells S.kind hkind fun env he s1 x => ?_
  subst he
  refine ⟨lim.keeps x.toInCall.keep, codeAny_func ?_⟩
  obtain ⟨t, ht, hq⟩ := hbody A outer s H vs Q E (hr.deeper _) hsp
  have I : Inv (cxOf CX P w K mg base N qual scope f cdv A outer s H E) [] (start N vs) H s1 := inv_start S hr.hd e0 hl r x
  refine wpAny_mono (ht [] s1 (start N vs) H _ I hq) (fun fl s' hs => ?_) fun e s' hs => hs
  have fin : ∀ {σ' : St} {H' : Hp} {v : V} {u : Value}, Inv (cxOf CX P w K mg base N qual scope f cdv A outer s H E) [] σ' H' s' → RelV v u → Q v H' → CE outer P w H s Q u s' :=
    fun {σ' H' v u} J rv q => ⟨v, H', J.os, J.bare, J.base, J.hok, rv, q⟩
  cases fl with
  | ret u =>
    obtain ⟨v, σ', H', J, rv, q⟩ := hs
    exact fin J rv q
  | next =>
    obtain ⟨σ', H', J, q⟩ := hs
    exact fin (v := V.non) (u := Value.none) J rfl q
  | brk =>
    obtain ⟨_, _, _, q⟩ := hs
    exact False.elim q
  | cont =>
    obtain ⟨_, _, _, q⟩ := hs
    exact False.elim q
end L2
namespace L2
open PySem PySem.Spec PyProof.Rows
section
variable {X : Cx} {x : Str} {p pos : Pos} {e : Expr} {es : List Expr} {t : TA} {id T : String} {r : List V → Hp → VK → Prop}
def tCB (r : List V → Hp → VK → Prop) (t : TA) : TE := fun σ H Q => t σ H fun vs H1 => r vs H1 Q
theorem pe_callB (hc : CallR X (.builtin id) r) (hg : Gl X x) (hm : X.mg x = none) (hv : bootBuiltins x = some (.builtin id)) (ha : PA X (e :: es) t) (hn : x ≠ "__name__" := by decide) (hdb : (x == ("__debug__" : Str)) = false := by decide)
    (he : starEach (e :: es) X.env = (false, eval e X.env) :: starEach es X.env := by rfl) (hpl : (backTo pos (starEach es X.env)).any (·.1) = false := by rfl) : PE X (.Call (.Name x p) (e :: es) [] pos) (tCB r t) := by
  intro pins s σ H Q I h
  refine wpAny_Call_Name_kw (ld_blt I hg hm hv ?_ hn hdb)
  refine PyProof.Rows.callWith_builtin1 (thn (ha pos pins s σ H _ I h) fun us s1 hm0 => ?_) he hpl
  obtain ⟨vs, H1, I1, r1, q1⟩ := hm0
  exact hc pins s1 σ H1 vs us Q I1 r1 q1
theorem pe_callTy (hc : CallR X (.type T) r) (hg : Gl X x) (hm : X.mg x = none) (hv : bootBuiltins x = some (.type T)) (ha : PA X (e :: es) t) (hn : x ≠ "__name__" := by decide) (hdb : (x == ("__debug__" : Str)) = false := by decide)
    (he : starEach (e :: es) X.env = (false, eval e X.env) :: starEach es X.env := by rfl) (hpl : (backTo pos (starEach es X.env)).any (·.1) = false := by rfl) : PE X (.Call (.Name x p) (e :: es) [] pos) (tCB r t) := by
  intro pins s σ H Q I h
  refine wpAny_Call_Name_kw (ld_blt I hg hm hv ?_ hn hdb)
  refine PyProof.Rows.callWith_type1 (thn (ha pos pins s σ H _ I h) fun us s1 hm0 => ?_) he hpl
  obtain ⟨vs, H1, I1, r1, q1⟩ := hm0
  exact hc pins s1 σ H1 vs us Q I1 r1 q1
end
end L2
namespace HT
open PySem PyProof.Rows
section
open PySem.SeqAt
open PySem.AutoSeq1 (wpAny_loadPart')
open PySem.MeetsSeq PySem.MeetsSeq2 PySem.MeetsSeq3
end
section
variable {prog : Program} {w : World} {A : Around} {E : Value → Shared → Prop} {s : Shared}
def sIx (n d : Nat) : Option Int → Nat
  | none => d
  | some v => if v < 0 then (v + (n : Int)).toNat else min v.toNat n
theorem sIx_none (n d : Nat) : sIx n d none = d := rfl
theorem sIx_nat (n d k : Nat) : sIx n d (some (k : Int)) = min k n := by
  show (if (k : Int) < 0 then ((k : Int) + (n : Int)).toNat else min (k : Int).toNat n) = min k n
  rw [if_neg (by omega), Int.toNat_natCast]
end
end HT
namespace L2
open PySem PySem.Spec PyProof.Rows
abbrev TO := St → Hp → (Option Int → Hp → Prop) → Prop
def PO (X : Cx) (e : Option Expr) (t : TO) : Prop :=
  ∀ (pins : List (Addr × Obj)) (s : Shared) (σ : St) (H : Hp) (Q : Option Int → Hp → Prop), Inv X pins σ H s → t σ H Q →
    wpAny (model X.prog X.w) X.A (evalPart e X.env) (fun u s' => ∃ o H', Inv X pins σ H' s' ∧ IsPart u o ∧ Q o H') X.xe s
def tNoPart : TO := fun _ H Q => Q none H
def tPart (t : TE) : TO := fun σ H Q => t σ H fun x H1 => ∃ i, x = .int i ∧ Q (some i) H1
section
variable {X : Cx} {e : Expr} {te : TE} {lo hi : Option Expr} {tl th : TO} {pos p2 : Pos}
theorem po_none : PO X none tNoPart := by
  intro pins s σ H Q I h
  rw [evalPart_none]
  exact wpAny_pure ⟨none, H, I, .none, h⟩
theorem po_some (h : PE X e te) : PO X (some e) (tPart te) := by
  intro pins s σ H Q I hw
  rw [evalPart_some]
  refine thn (h pins s σ H _ I hw) fun u s1 hm0 => ?_
  obtain ⟨x, H1, I1, r1, q1⟩ := hm0
  obtain ⟨i, rfl, q⟩ := q1
  obtain ⟨t, rfl⟩ := r1
  exact ⟨some i, H1, I1, .int i t, q⟩
def SlR (X : Cx) (r : V → Option Int → Option Int → Hp → VK → Prop) : Prop :=
  ∀ (pins : List (Addr × Obj)) (s : Shared) (σ : St) (H : Hp) (x : V) (v vl vu : Value) (lo hi : Option Int) (sl : Addr) (Q : VK), Inv X pins σ H s → RelV x v → s.heap.IsSliceOf sl vl vu .none → IsPart vl lo → IsPart vu hi → r x lo hi H Q →
    ∃ T id, typeLookup (.type T) "__getitem__" = pure (some (.builtin id)) ∧ s.TypeIs v T ∧ wpAny (model X.prog X.w) X.A (getItem v (.ref sl)) (EP X pins σ Q) X.xe s
def tSl (r : V → Option Int → Option Int → Hp → VK → Prop) (te : TE) (tl th : TO) : TE := fun σ H Q => te σ H fun x H1 => tl σ H1 fun l H2 => th σ H2 fun u H3 => r x l u H3 Q
theorem pe_slice {r : V → Option Int → Option Int → Hp → VK → Prop} (hr : SlR X r) (he : PE X e te) (hl : PO X lo tl) (hu : PO X hi th) : PE X (.Subscript e (.Slice lo hi none p2) pos) (tSl r te tl th) := by
  intro pins s σ H Q I h
  refine Subscript_ (thn (he pins s σ H _ I h) fun v s1 hm0 => ?_)
  obtain ⟨x, H1, I1, r1, q1⟩ := hm0
  refine wpAny_Slice (thn (hl pins s1 σ H1 _ I1 q1) fun vl s2 hm0 => ?_)
  obtain ⟨l, H2, I2, pl, q2⟩ := hm0
  refine thn (hu pins s2 σ H2 _ I2 q2) fun vu s3 hm1 => ?_
  obtain ⟨u, H3, I3, pu, q3⟩ := hm1
  rw [evalPart_none]
  refine wpAny_pure ?_
  have I4 : Inv X pins σ H3 { s3 with heap := s3.heap.push { cls := .type "slice", data := .fields #[vl, vu, .none] } } := I3.kept (t' := s3.toks) fun b ob q => Heap.get?_push_of_some _ q
  obtain ⟨T, id, hT, ht, hg⟩ := hr pins { s3 with heap := s3.heap.push { cls := .type "slice", data := .fields #[vl, vu, .none] } } σ H3 x v vl vu l u s3.heap.objs.size Q I4 r1 (Heap.IsSliceOf.new ..) pl pu q3
  show wpAny (model X.prog X.w) X.A (subscriptTail e (.Slice lo hi none p2) v (.ref s3.heap.objs.size)) (EP X pins σ Q) X.xe { s3 with heap := s3.heap.push { cls := .type "slice", data := .fields #[vl, vu, .none] } }
  exact tail_any (ops := [.ref s3.heap.objs.size, v]) ht hT hg (by with_unfolding_all rfl)
def cutV (xs : List V) (lo hi : Option Int) : List V := (xs.drop (HT.sIx xs.length 0 lo)).take (HT.sIx xs.length xs.length hi - HT.sIx xs.length 0 lo)
theorem cutV_length (xs : List V) (lo hi : Option Int) : (cutV xs lo hi).length ≤ xs.length := by
  unfold cutV
  rw [List.length_take, List.length_drop]
  omega
end
end L2
namespace L2
open PySem PySem.Spec PyProof.Rows
def ixN (n : Nat) (i : Int) : Option Nat := if 0 ≤ i then (if i < n then some i.toNat else none) else if -(n : Int) ≤ i then some (i + n).toNat else none
def atI {α : Type} (xs : List α) (i : Int) : Option α := (ixN xs.length i).bind fun j => xs[j]?
theorem ixN_seq {n : Nat} {i : Int} {j : Nat} (h : ixN n i = some j) : seqIndex? i n = some j ∧ j < n ∧ -(n : Int) ≤ i ∧ i < n := by
  unfold ixN at h
  by_cases h0 : 0 ≤ i
  · rw [if_pos h0] at h
    by_cases h1 : i < n
    · rw [if_pos h1] at h
      have e : i.toNat = j := Option.some.inj h
      exact ⟨by rw [seqIndex_of h0 h1, e], by omega, by omega, h1⟩
    · rw [if_neg h1] at h; cases h
  · rw [if_neg h0] at h
    by_cases h1 : -(n : Int) ≤ i
    · rw [if_pos h1] at h
      have e : (i + n).toNat = j := Option.some.inj h
      exact ⟨by rw [seqIndex_neg (by omega) h1, e], by omega, h1, by omega⟩
    · rw [if_neg h1] at h; cases h
theorem atI_get {α : Type} {xs : List α} {i : Int} {v : α} (h : atI xs i = some v) : ∃ j, seqIndex? i xs.length = some j ∧ xs[j]? = some v ∧ j < xs.length ∧ -(xs.length : Int) ≤ i ∧ i < xs.length := by
  unfold atI at h
  cases e : ixN xs.length i with
  | none => rw [e] at h; cases h
  | some j =>
    rw [e] at h
    obtain ⟨h1, h2, h3, h4⟩ := ixN_seq e
    exact ⟨j, h1, h, h2, h3, h4⟩
theorem atI_nat {α : Type} {xs : List α} {j : Nat} {v : α} (h : xs[j]? = some v) : atI xs (j : Int) = some v := by
  have hj : j < xs.length := (List.getElem?_eq_some_iff.mp h).1
  have e : ixN xs.length (j : Int) = some j := by
    unfold ixN
    rw [if_pos (by omega), if_pos (by omega)]; simp
  unfold atI; rw [e]; exact h
def PlainIx (b : Expr) : Prop := ∀ o i, subscripted b false o i = operate [o, i] (getItem o i)
def IxR (X : Cx) (r : R2) : Prop :=
  ∀ (value slice : Expr) (pins : List (Addr × Obj)) (s : Shared) (σ : St) (H : Hp) (x y : V) (v u : Value) (Q : VK), Inv X pins σ H s → RelV x v → RelV y u → r x y H Q →
    subscripted slice false v u = operate [v, u] (getItem v u) → wpAny (model X.prog X.w) X.A (subscriptTail value slice v u) (EP X pins σ Q) X.xe s
def MtR (X : Cx) (id : String) (r : V → List V → Hp → VK → Prop) : Prop :=
  ∀ (pins : List (Addr × Obj)) (s : Shared) (σ : St) (H : Hp) (x : V) (xs : List V) (v : Value) (us : List Value) (Q : VK), Inv X pins σ H s → RelV x v → Vals xs us → r x xs H Q →
    wpAny (model X.prog X.w) X.A (call (.builtin id) (v :: us)) (EP X pins σ Q) X.xe s
section
variable {X : Cx} {a b : Expr} {ta tb : TE} {pos : Pos}
theorem pe_ix {r : R2} (hr : IxR X r) (ha : PE X a ta) (hb : PE X b tb) (hs : PlainIx b) : PE X (.Subscript a b pos) (tOp r ta tb) := by
  intro pins s σ H Q I h
  exact Subscript_ (binT ha hb I h fun v u s2 x y H2 I2 rx ry q => hr a b pins s2 σ H2 x y v u Q I2 rx ry q (hs _ _))
def rIxL (K : PySem.W.Frag) : R2 := fun x y H Q => ∃ p xs i v, x = .ref p ∧ y = .int i ∧ SqL K H p xs ∧ atI xs i = some v ∧ Q v H
def rIxT (K : PySem.W.Frag) : R2 := fun x y H Q => ∃ p xs i v, x = .ref p ∧ y = .int i ∧ SqT K H p xs ∧ atI xs i = some v ∧ Q v H
theorem ix_list : IxR X (rIxL X.K) := by
  intro value slice pins s σ H x y v u Q I rx ry h hs
  obtain ⟨p, xs, i, z, rfl, rfl, hq, he, q⟩ := h
  cases rx
  obtain ⟨t, rfl⟩ := ry
  obtain ⟨its, r, pl, hz⟩ := I.list hq
  obtain ⟨j, h1, h2, h3, h4, h5⟩ := atI_get he
  obtain ⟨w, ew, rw'⟩ := r.get h2
  have hl := r.length
  have hn := line63
  have fin : EP X pins σ Q w s := ⟨z, H, I, rw', q⟩
  by_cases h0 : 0 ≤ i
  · have hj : i.toNat = j := by
      rw [seqIndex_of h0 h5] at h1
      exact Option.some.inj h1
    exact item_listR pl.isList h0 (by omega) (by rw [hj]; simpa using ew) fin hs
  · have hj : (i + (its.toArray.size : Int)).toNat = j := by
      rw [seqIndex_neg (by omega) h4] at h1
      rw [List.size_toArray, ← hl]
      exact Option.some.inj h1
    exact subscriptTail_builtinR (x := w) pl.isList.typeIs slot_list_getitem.lookup
      (wpAny_getItem_list_neg (Q := fun r s' => r = w ∧ EP X pins σ Q r s') pl.isList (by omega) (by rw [List.size_toArray] <;> omega) (by omega) (by rw [hj]; simpa using ew) ⟨rfl, fin⟩) hs
theorem ix_tup : IxR X (rIxT X.K) := by
  intro value slice pins s σ H x y v u Q I rx ry h hs
  obtain ⟨p, xs, i, z, rfl, rfl, hq, he, q⟩ := h
  cases rx
  obtain ⟨t, rfl⟩ := ry
  obtain ⟨its, r, pl, hz⟩ := I.tuple hq
  obtain ⟨j, h1, h2, h3, h4, h5⟩ := atI_get he
  obtain ⟨w, ew, rw'⟩ := r.get h2
  have hl := r.length
  have hn := line63
  have fin : EP X pins σ Q w s := ⟨z, H, I, rw', q⟩
  exact subscriptTail_builtinR (x := w) pl.typeIs slot_tuple_getitem.lookup
    (getItem_tuple (j := j) (Q := fun r s' => r = w ∧ EP X pins σ Q r s') pl (by omega) (by omega) (by rw [List.size_toArray, ← hl]; exact h1) (by simpa using ew) ⟨rfl, fin⟩) hs
theorem mapSeq_set (its : List Value) (n j : Nat) (u : Value) : Obj.mapSeq (·.setIfInBounds j u) { cls := .type "list", data := .seq its.toArray n } = { cls := .type "list", data := .seq (its.set j u).toArray n } := by
  simp [Obj.mapSeq]
theorem Inv.lst {pins : List (Addr × Obj)} {σ : St} {H : Hp} {s : Shared} {p : Addr} {xs : List V} (I : Inv X pins σ H s) (h : H p = some (.lst xs)) :
    ∃ (its : List Value) (n : Nat), Vals xs its ∧ s.heap.get? p = some { cls := .type "list", data := .seq its.toArray n } ∧ xs.length ≤ sizeLine := by
  obtain ⟨z, its, n, r, e⟩ := I.hok p _ h
  exact ⟨its, n, r, e, z⟩
theorem Inv.lstUpd {pins : List (Addr × Obj)} {σ : St} {H : Hp} {s : Shared} {p : Addr} {xs ys : List V} {its its' : List Value} {n n' : Nat} {f : Obj → Obj} (I : Inv X pins σ H s) (h : H p = some (.lst xs))
    (ho : s.heap.get? p = some { cls := .type "list", data := .seq its.toArray n }) (hf : f { cls := .type "list", data := .seq its.toArray n } = { cls := .type "list", data := .seq its'.toArray n' }) (r : Vals ys its') (hz : ys.length ≤ sizeLine) (t : Nat) :
    Inv X pins σ (upd H p (.lst ys)) { s with heap := s.heap.update p f, toks := t } := by
  have e : (s.heap.update p f).get? p = some { cls := .type "list", data := .seq its'.toArray n' } := by
    rw [Heap.get?_update_self f ho (by rw [hf] <;> rfl), hf]
  refine I.write (x := p) (e := p) (by rw [h]; trivial) (.inl rfl) (fun b u hb q => (Heap.get?_update_other _ _ (Ne.symm hb)).trans q) ⟨_, e⟩ ?_
  exact ⟨hz, its', n', r, e⟩
def rSetL : V → V → V → Hp → (Hp → Prop) → Prop := fun o i v H Q => ∃ p xs k j, o = .ref p ∧ i = .int k ∧ H p = some (.lst xs) ∧ ixN xs.length k = some j ∧ Q (upd H p (.lst (xs.set j v)))
theorem set_list : PSet X rSetL := by
  intro pins s σ H o i v ov iv u Q I ro ri rv h
  obtain ⟨p, xs, k, j, rfl, rfl, hp, hj, q⟩ := h
  cases ro
  obtain ⟨t, rfl⟩ := ri
  obtain ⟨its, n, r, ho, hz⟩ := I.lst hp
  obtain ⟨h1, h2, h3, h4⟩ := ixN_seq hj
  have hl := r.length
  have hn := line63
  have I' : Inv X pins σ (upd H p (.lst (xs.set j v))) { s with heap := s.heap.update p (Obj.mapSeq (·.setIfInBounds j u)) } :=
    I.lstUpd hp ho (mapSeq_set its n j u) (r.set rv j) (by rw [List.length_set]; exact hz) s.toks
  by_cases h0 : 0 ≤ k
  · have hk : k.toNat = j := by
      rw [seqIndex_of h0 h4] at h1
      exact Option.some.inj h1
    exact PySem.W.ki_setAt ho h0 (by omega) (by rw [List.size_toArray, ← hl]; exact h4) (by rw [hk]; exact ⟨_, I', q⟩)
  · have hk : (k + (its.toArray.size : Int)).toNat = j := by
      rw [seqIndex_neg (by omega) h3] at h1
      rw [List.size_toArray, ← hl]
      exact Option.some.inj h1
    exact PySem.W.ki_setBack ho (by omega) (by rw [List.size_toArray, ← hl]; exact h3) (by omega) (by rw [hk]; exact ⟨_, I', q⟩)
theorem slice_bounds (lo hi : Option Int) (n : Nat) : (sliceBounds lo hi none n).1 = ((HT.sIx n 0 lo : Nat) : Int) ∧ (sliceBounds lo hi none n).2.1 = ((HT.sIx n n hi : Nat) : Int) ∧ (sliceBounds lo hi none n).2.2 = 1 := by
  refine ⟨?_, ?_, rfl⟩
  · cases lo with
    | none => simp [sliceBounds, HT.sIx]
    | some i =>
      simp only [sliceBounds, HT.sIx, Option.getD_none, show (1 : Int) > 0 by decide, if_true]
      by_cases h : i < 0
      · simp only [h, if_true] <;> omega
      · simp only [h, if_false] <;> omega
  · cases hi with
    | none => simp [sliceBounds, HT.sIx]
    | some i =>
      simp only [sliceBounds, HT.sIx, Option.getD_none, show (1 : Int) > 0 by decide, if_true]
      by_cases h : i < 0
      · simp only [h, if_true] <;> omega
      · simp only [h, if_false] <;> omega
theorem slicePick_cut (its : List Value) (lo hi : Option Int) : slicePick its.toArray lo hi none = ((its.drop (HT.sIx its.length 0 lo)).take (HT.sIx its.length its.length hi - HT.sIx its.length 0 lo)).toArray := by
  obtain ⟨h1, h2, h3⟩ := slice_bounds lo hi its.toArray.size
  unfold slicePick
  rw [h1, h2, h3]
  simp only [sliceRange_one, pick_run, List.size_toArray] <;> rfl
def rSlL (K : PySem.W.Frag) : V → Option Int → Option Int → Hp → VK → Prop := fun x lo hi H Q => ∃ a xs, x = .ref a ∧ SqL K H a xs ∧ ∀ p, H p = none → Q (.ref p) (upd H p (.lst (cutV xs lo hi)))
theorem sl_list : SlR X (rSlL X.K) := by
  intro pins s σ H x v vl vu lo hi sl Q I rx hs pl pu h
  obtain ⟨a, xs, rfl, hx, q⟩ := h
  cases rx
  obtain ⟨its, r, ht, hz⟩ := I.list hx
  have hlen := r.length
  refine ⟨"list", _, slot_list_getitem.lookup, ht.isList.typeIs, ?_⟩
  refine wpAny_getItem_list_slice ht.isList hs pl pu .none (by simp) ?_ (by rw [List.size_toArray] <;> omega)
  rw [slicePick_cut, ← hlen]
  refine ⟨.ref s.heap.objs.size, _, I.laid (t' := s.toks) (o := .lst (cutV xs lo hi)) (fun b ob q => Heap.get?_push_of_some _ q) (Nat.le_refl _) ?_, rfl, q _ (I.hok.fresh (Nat.le_refl _))⟩
  exact ⟨Nat.le_trans (cutV_length xs lo hi) hz, _, 0, (r.drop (HT.sIx xs.length 0 lo)).take (HT.sIx xs.length xs.length hi - HT.sIx xs.length 0 lo), Heap.get?_push_size _ rfl⟩
def flatV : V → Bool
  | .non => true
  | .bl _ => true
  | .int _ => true
  | .str _ => true
  | _ => false
def eqV : V → V → Bool
  | .non, .non => true
  | .bl a, .bl b => a == b
  | .bl a, .int b => (if a then 1 else 0) == b
  | .int a, .bl b => a == (if b then 1 else 0)
  | .int a, .int b => a == b
  | .str a, .str b => a == b
  | _, _ => false
theorem eqAt_V {A : Around} {s : Shared} {y x : V} {u v : Value} (ry : RelV y u) (rx : RelV x v) (fy : flatV y = true) (fx : flatV x = true) : SeqAt.EqAt A s u v (eqV y x) := by
  cases y with
  | non =>
    cases ry
    cases x with
    | non => cases rx; exact SeqAt.EqAt.same _
    | bl b => cases rx; exact SeqAt.EqAt.none_bool b
    | int b => obtain ⟨t, rfl⟩ := rx; exact SeqAt.EqAt.none_int b t
    | str b => obtain ⟨t, rfl⟩ := rx; exact SeqAt.EqAt.none_str b t
    | _ => exact absurd (show false = true from fx) Bool.false_ne_true
  | bl a =>
    cases ry
    cases x with
    | non => cases rx; exact SeqAt.EqAt.bool_none a
    | bl b => cases rx; exact SeqAt.EqAt.bool_bool a b
    | int b => obtain ⟨t, rfl⟩ := rx; exact SeqAt.EqAt.bool_int a b t
    | str b => obtain ⟨t, rfl⟩ := rx; exact SeqAt.EqAt.bool_str a b t
    | _ => exact absurd (show false = true from fx) Bool.false_ne_true
  | int a =>
    obtain ⟨t', rfl⟩ := ry
    cases x with
    | non => cases rx; exact SeqAt.EqAt.int_none a t'
    | bl b => cases rx; exact SeqAt.EqAt.int_bool a t' b
    | int b => obtain ⟨t, rfl⟩ := rx; exact SeqAt.EqAt.int_int a t' b t
    | str b => obtain ⟨t, rfl⟩ := rx; exact SeqAt.EqAt.int_str a t' b t
    | _ => exact absurd (show false = true from fx) Bool.false_ne_true
  | str a =>
    obtain ⟨t', rfl⟩ := ry
    cases x with
    | non => cases rx; exact SeqAt.EqAt.str_none a t'
    | bl b => cases rx; exact SeqAt.EqAt.str_bool a t' b
    | int b => obtain ⟨t, rfl⟩ := rx; exact SeqAt.EqAt.str_int a t' b t
    | str b => obtain ⟨t, rfl⟩ := rx; exact SeqAt.EqAt.str_str a t' b t
    | _ => exact absurd (show false = true from fx) Bool.false_ne_true
  | _ => exact absurd (show false = true from fy) Bool.false_ne_true
def eqU (x : V) (u : Value) : Bool := match u with
  | .none => eqV .non x
  | .bool b => eqV (.bl b) x
  | .int i _ => eqV (.int i) x
  | .str z _ => eqV (.str z) x
  | _ => false
theorem eqU_of {x y : V} {u : Value} (r : RelV y u) (f : flatV y = true) : eqU x u = eqV y x := by
  cases y with
  | non => cases r; rfl
  | bl b => cases r; rfl
  | int i => obtain ⟨t, rfl⟩ := r; rfl
  | str z => obtain ⟨t, rfl⟩ := r; rfl
  | _ => exact absurd (show false = true from f) Bool.false_ne_true
theorem any_eqU {x : V} : ∀ {xs : List V} {us : List Value}, Vals xs us → xs.all flatV = true → us.any (eqU x) = xs.any fun y => eqV y x
  | _, _, .nil, _ => rfl
  | y :: xs, u :: us, .cons r t, f => by
    rw [List.all_cons, Bool.and_eq_true] at f
    rw [List.any_cons, List.any_cons, eqU_of r f.1, any_eqU t f.2]
theorem mem_eqAt {A : Around} {s : Shared} {x : V} {v : Value} (rx : RelV x v) (fx : flatV x = true) : ∀ {xs : List V} {us : List Value}, Vals xs us → xs.all flatV = true → ∀ u ∈ us, SeqAt.EqAt A s u v (eqU x u)
  | _, _, .nil, _ => fun u hu => by cases hu
  | y :: xs, u :: us, .cons r t, f => fun u' hu => by
    rw [List.all_cons, Bool.and_eq_true] at f
    rcases List.mem_cons.mp hu with rfl | hu
    · rw [eqU_of r f.1]; exact eqAt_V r rx f.1 fx
    · exact mem_eqAt rx fx t f.2 u' hu
def inV (x : V) (xs : List V) : Bool := xs.any fun y => eqV y x
def rIn (K : PySem.W.Frag) (neg : Bool) : R2 := fun x y H Q => ∃ p xs, y = .ref p ∧ (SqL K H p xs ∨ SqT K H p xs) ∧ flatV x = true ∧ xs.all flatV = true ∧ Q (.bl (if neg then !inV x xs else inV x xs)) H
theorem op_in_seq : OpR X (compareOp .In) (rIn X.K false) := by
  intro pins s σ H x y v u Q I rx ry h
  obtain ⟨p, xs, rfl, hq, fx, fs, q⟩ := h
  cases ry
  rcases hq with hq | hq
  · obtain ⟨its, r, pl, hz⟩ := I.list hq
    refine SeqAt.in_listAt (eqU x) pl.isList (fun w hw => mem_eqAt rx fx r fs w (by simpa using hw)) ⟨.bl _, H, I, rfl, ?_⟩
    rw [show its.toArray.any (eqU x) = its.any (eqU x) by simp, any_eqU r fs]
    exact q
  · obtain ⟨its, r, pl, hz⟩ := I.tuple hq
    refine SeqAt.in_tupleAt (eqU x) pl (fun w hw => mem_eqAt rx fx r fs w (by simpa using hw)) ⟨.bl _, H, I, rfl, ?_⟩
    rw [show its.toArray.any (eqU x) = its.any (eqU x) by simp, any_eqU r fs]
    exact q
theorem call_len_seq : CallR X (.builtin "len") (fun xs H Q => ∃ p ys, xs = [.ref p] ∧ (SqL X.K H p ys ∨ SqT X.K H p ys) ∧ Q (.int ys.length) H) := by
  intro pins s σ H xs us Q I r h
  obtain ⟨p, ys, rfl, hq, q⟩ := h
  obtain ⟨u, rfl, rx⟩ := vals1 r
  cases rx
  have hn := line63
  rcases hq with hq | hq
  · obtain ⟨its, r', pl, hz⟩ := I.list hq
    have hlen := r'.length
    exact Calls.call_len_list pl.isList (by simp only [List.size_toArray] <;> omega) ⟨.int ys.length, H, I.tok _, ⟨s.toks + 1, by rw [List.size_toArray, hlen]⟩, q⟩
  · obtain ⟨its, r', pl, hz⟩ := I.tuple hq
    have hlen := r'.length
    exact len_tuple pl (by simp only [List.size_toArray] <;> omega) ⟨.int ys.length, H, I.tok _, ⟨s.toks + 1, by rw [List.size_toArray, hlen]⟩, q⟩
theorem call_list_of : CallR X (.type "list") (fun xs H Q => ∃ p ys, xs = [.ref p] ∧ (SqL X.K H p ys ∨ SqT X.K H p ys) ∧ ∀ l, H l = none → Q (.ref l) (upd H l (.lst ys))) := by
  intro pins s σ H xs us Q I r h
  obtain ⟨p, ys, rfl, hq, q⟩ := h
  obtain ⟨u, rfl, rx⟩ := vals1 r
  cases rx
  have fin : ∀ (its : List Value), Vals ys its → ys.length ≤ sizeLine → ∀ (h' : Heap) (c' : Nat), (∀ b o', s.heap.get? b = some o' → h'.get? b = some o') →
      h'.get? s.heap.objs.size = some { cls := .type "list", dict := none, data := .seq its.toArray c', slots := #[] } → EP X pins σ Q (.ref s.heap.objs.size) { s with heap := h' } := fun its r' hz h' c' kp e =>
    ⟨.ref s.heap.objs.size, _, I.laid (t' := s.toks) kp (Nat.le_refl _) (show ObjOk X.prog X.w _ h' _ (.lst ys) from ⟨hz, its, c', r', e⟩), rfl, q _ (I.hok.fresh (Nat.le_refl _))⟩
  rcases hq with hq | hq
  · obtain ⟨its, r', pl, hz⟩ := I.list hq
    have hlen := r'.length
    obtain ⟨o, ho, hc, n, hd⟩ := pl.isList
    exact call_list_seq p (.inl rfl) ho hc hd (fun h' c' kp e => fin its r' hz h' c' kp e) (by simp only [List.size_toArray] <;> omega)
  · obtain ⟨its, r', pl, hz⟩ := I.tuple hq
    have hlen := r'.length
    obtain ⟨o, ho, hc, n, hd⟩ := pl
    exact call_list_seq p (.inr rfl) ho hc hd (fun h' c' kp e => fin its r' hz h' c' kp e) (by simp only [List.size_toArray] <;> omega)
def tyV (K : PySem.W.Frag) (T : String) (x : V) (H : Hp) : Prop := match x with
  | .str _ => T = "str"
  | .int _ => T = "int"
  | .ref p => (T = "list" ∧ ∃ xs, SqL K H p xs) ∨ (T = "tuple" ∧ ∃ o, K.lookup p = some o ∧ o.cls = .type "tuple" ∧ o.dict = none) ∨
      (T = "dict" ∧ ((∃ kvs, H p = some (.dK kvs)) ∨ ∃ kvs, H p = some (.dT kvs))) ∨ (T = "set" ∧ ∃ S n, H p = some (.set S n))
  | _ => False
theorem tyV_is {pins : List (Addr × Obj)} {σ : St} {H : Hp} {s : Shared} {T : String} {x : V} {v : Value} (I : Inv X pins σ H s) (r : RelV x v) (ty : tyV X.K T x H) :
    s.TypeIs v T ∧ ∀ a, v = .ref a → ∃ ob, s.heap.get? a = some ob ∧ ob.dict = none := by
  cases x with
  | str z =>
    obtain ⟨t, rfl⟩ := r
    cases (show T = "str" from ty)
    exact ⟨typeIs_str s z t, fun _ e => nomatch e⟩
  | int i =>
    obtain ⟨t, rfl⟩ := r
    cases (show T = "int" from ty)
    exact ⟨typeIs_int s i t, fun _ e => nomatch e⟩
  | ref p =>
    cases r
    rcases ty with ⟨rfl, xs, hq⟩ | ⟨rfl, o, hk, hc, hd⟩ | ⟨rfl, hk⟩ | ⟨rfl, S, n, hk⟩
    · obtain ⟨its, _, pl, _⟩ := I.list hq
      refine ⟨pl.isList.typeIs, fun a e => ?_⟩
      cases e
      obtain ⟨o, n, e, c, hd, _⟩ := pl
      exact ⟨o, e, hd⟩
    · refine ⟨⟨o, I.kIn p o hk, hc⟩, fun a e => ?_⟩
      cases e
      exact ⟨o, I.kIn _ o hk, hd⟩
    · have z : ∃ o, s.heap.get? p = some o ∧ o.ExactDict := by
        rcases hk with ⟨kvs, hk⟩ | ⟨kvs, hk⟩
        · obtain ⟨_, _, _, _, o, _, _, e, ex, _⟩ := I.hok p _ hk
          exact ⟨o, e, ex⟩
        · obtain ⟨_, _, _, _, o, _, _, e, ex, _⟩ := I.hok p _ hk
          exact ⟨o, e, ex⟩
      obtain ⟨o, e, ex⟩ := z
      refine ⟨⟨o, e, ex.1⟩, fun a e2 => ?_⟩
      cases e2
      exact ⟨o, e, ex.2.1⟩
    · obtain ⟨o, _, _, _, e, ex, _⟩ := I.hok p _ hk
      refine ⟨⟨o, e, ex.1⟩, fun a e2 => ?_⟩
      cases e2
      exact ⟨o, e, ex.2.1⟩
  | _ => exact False.elim ty
def tBM0 (K : PySem.W.Frag) (T : String) (r : V → List V → Hp → VK → Prop) (to : TE) : TE := fun σ H Q => to σ H fun x H1 => tyV K T x H1 ∧ r x [] H1 Q
def tBM (K : PySem.W.Frag) (T : String) (r : V → List V → Hp → VK → Prop) (to : TE) (t : TA) : TE := fun σ H Q => to σ H fun x H1 => tyV K T x H1 ∧ t σ H1 fun xs H2 => r x xs H2 Q
variable {o e : Expr} {es : List Expr} {to : TE} {t : TA} {name : Str} {apos cpos : Pos} {T id : String} {r : V → List V → Hp → VK → Prop}
theorem pe_bm0 (pa : PlainAttrs T) (slot : Slot T name id) (hty : typeOf (.builtin id) = pure (.type "method_descriptor")) (hm : MtR X id r) (ho : PE X o to)
    (hbase : attributeBase o name X.env (eval o X.env) = eval o X.env := by rfl) (hline : (apos.endLine == cpos.line) = true := by rfl) : PE X (.Call (.Attribute o name apos) [] [] cpos) (tBM0 X.K T r to) := by
  intro pins s σ H Q I h
  refine wpAny_Call_method0_late hbase hline (thn (ho pins s σ H _ I h) fun v s1 hm0 => ?_)
  obtain ⟨x, H1, I1, r1, ty, q1⟩ := hm0
  obtain ⟨h1, h2⟩ := tyV_is I1 r1 ty
  exact ⟨T, id, pa, slot, hty, h1, h2, Calls.callWith_builtin rfl (PySem.evalArgs_none (hm pins s1 σ H1 x [] v [] Q I1 r1 .nil q1))⟩
theorem pe_bm (pa : PlainAttrs T) (slot : Slot T name id) (hty : typeOf (.builtin id) = pure (.type "method_descriptor")) (hm : MtR X id r) (ho : PE X o to) (ha : PA X (e :: es) t)
    (hbase : attributeBase o name X.env (eval o X.env) = eval o X.env := by rfl)
    (hfew : ((backTo cpos (starEach (e :: es) X.env)).all (fun x => !x.1) && (backToKw cpos (keywordEach [] X.env)).all (fun x => x.1.isSome)
      && decide ((e :: es).length + ([] : List Keyword).length + (if ([] : List Keyword).isEmpty then 0 else 1) < 30)) = true := by rfl)
    (hline : (apos.endLine == cpos.line) = true := by rfl) (hs : starEach (e :: es) X.env = (false, eval e X.env) :: starEach es X.env := by rfl) (hplain : (backTo cpos (starEach es X.env)).any (·.1) = false := by rfl) :
    PE X (.Call (.Attribute o name apos) (e :: es) [] cpos) (tBM X.K T r to t) := by
  intro pins s σ H Q I h
  refine wpAny_Call_method_late hbase hfew hline rfl (thn (ho pins s σ H _ I h) fun v s1 hm0 => ?_)
  obtain ⟨x, H1, I1, r1, ty, q1⟩ := hm0
  obtain ⟨h1, h2⟩ := tyV_is I1 r1 ty
  refine ⟨T, id, pa, slot, hty, h1, h2, ?_⟩
  have hA := ha cpos pins s1 σ H1 _ I1 q1
  rw [hs] at hA ⊢
  refine Calls.callWith_builtin (by show (false || (backTo cpos (starEach es X.env)).any (·.1)) = false; rw [hplain] <;> rfl) (Calls.evalArgs_plain ?_)
  refine thn hA fun us s2 hm0 => ?_
  obtain ⟨vs, H2, I2, r2, q2⟩ := hm0
  exact hm pins s2 σ H2 x vs v us Q I2 r1 r2 q2
/- xs.append(e), list.index on a module's tuple .. are MtR facts of 06m -/
end
end L2
namespace L2
open PySem PySem.Spec PyProof.Rows
def MtM (X : Cx) (id : String) (r : V → List V → Hp → VK → Prop) : Prop :=
  ∀ (pins : List (Addr × Obj)) (s : Shared) (σ : St) (H : Hp) (x : V) (xs : List V) (v : Value) (us : List Value) (Q : VK), Inv X pins σ H s → RelV x v → Vals xs us → r x xs H Q →
    wpAny (model X.prog X.w) X.A (call (.builtin id) (v :: us)) (EP X pins σ Q) X.xe s
theorem Vals.one {x : V} {us : List Value} (h : Vals [x] us) : ∃ u, us = [u] ∧ RelV x u := by
  cases h with
  | cons r e => cases e; exact ⟨_, rfl, r⟩
theorem Vals.two {x y : V} {us : List Value} (h : Vals [x, y] us) : ∃ u v, us = [u, v] ∧ RelV x u ∧ RelV y v := by
  cases h with
  | cons r e =>
    obtain ⟨v, e1, q⟩ := Vals.one e
    subst e1
    exact ⟨_, _, rfl, r, q⟩
theorem Vals.zero : ∀ {us : List Value}, Vals [] us → us = []
  | _, .nil => rfl
theorem Vals.dropLast {xs : List V} {us : List Value} (h : Vals xs us) : Vals xs.dropLast us.dropLast := by
  induction h with
  | nil => exact .nil
  | cons r t ih =>
    cases t with
    | nil => exact .nil
    | cons q t' => exact .cons r ih
theorem erase_last {α : Type} (l : List α) : l.eraseIdx (l.length - 1) = l.dropLast := by
  induction l with
  | nil => rfl
  | cons a r ih =>
    cases r with
    | nil => rfl
    | cons b r =>
      have e : (a :: b :: r).length - 1 = ((b :: r).length - 1) + 1 := by
        have h1 : (a :: b :: r).length = r.length + 2 := rfl
        have h2 : (b :: r).length = r.length + 1 := rfl
        omega
      rw [e, List.eraseIdx_cons_succ, ih]
      all_goals rfl
section
variable {X : Cx} {pins : List (Addr × Obj)} {σ : St} {H : Hp} {s : Shared} {l b : Addr} {xs ys zs : List V}
theorem Inv.lset {its its' : List Value} {n : Nat} {f : Array Value → Array Value} {t' : Nat} (I : Inv X pins σ H s) (hH : H l = some (.lst xs))
    (e : s.heap.get? l = some { cls := .type "list", data := .seq its.toArray n }) (hf : f its.toArray = its'.toArray) (hv : Vals ys its') (hz : ys.length ≤ sizeLine) :
    Inv X pins σ (upd H l (.lst ys)) { s with heap := s.heap.update l (Obj.mapSeq f), toks := t' } := by
  have q := PySem.IsL.update e f
  rw [hf] at q
  refine I.write (x := l) (e := l) (by rw [hH]; exact trivial) (.inl rfl) (fun b' u hb hu => (Heap.get?_update_other s.heap (Obj.mapSeq f) (Ne.symm hb)).trans hu) ⟨_, q⟩ ?_
  exact ⟨hz, its', _, hv, q⟩
theorem Inv.lnew {its : List Value} {t' : Nat} (I : Inv X pins σ H s) (hv : Vals ys its) (hz : ys.length ≤ sizeLine) :
    Inv X pins σ (upd H s.heap.objs.size (.lst ys)) { s with heap := s.heap.push { cls := .type "list", data := .seq its.toArray }, toks := t' } :=
  I.laid (fun _ _ q => Heap.get?_push_of_some _ q) (Nat.le_refl _) ⟨hz, its, 0, hv, Heap.get?_push_size _ rfl⟩
theorem Inv.fresh (I : Inv X pins σ H s) : H s.heap.objs.size = none := I.hok.fresh (Nat.le_refl _)
theorem Inv.lstM (I : Inv X pins σ H s) (hH : H l = some (.lst xs)) : xs.length ≤ sizeLine ∧ ∃ (its : List Value) (n : Nat), Vals xs its ∧ xs.length = its.length ∧ s.heap.get? l = some { cls := .type "list", data := .seq its.toArray n } := by
  obtain ⟨z, its, n, r, e⟩ := I.hok l _ hH
  exact ⟨z, its, n, r, r.length, e⟩
end
section
variable {X : Cx}
def rAppend : V → List V → Hp → VK → Prop := fun x vs H Q => ∃ l xs y, x = .ref l ∧ vs = [y] ∧ H l = some (.lst xs) ∧ xs.length < sizeLine ∧ Q .non (upd H l (.lst (xs ++ [y])))
theorem mt_append : MtM X "list.append" rAppend := by
  intro pins s σ H x vs v us Q I rx rv h
  obtain ⟨l, xs, y, rfl, rfl, hH, hz, q⟩ := h
  cases rx
  obtain ⟨u, rfl, ru⟩ := rv.one
  obtain ⟨z, its, n, r, hl, e⟩ := I.lstM hH
  refine call_meets F.slot_list_append ⟨_, e, rfl⟩ F.entry_list_append (F.args_list_append_2 _ _) (PySem.list_append l its.toArray n u (by rw [List.size_toArray]; omega)) ⟨e, ?_⟩
  refine ⟨.non, _, I.lset (its' := its ++ [u]) hH e (by simp) (r.append (.cons ru .nil)) ?_, rfl, q⟩
  rw [List.length_append, List.length_singleton]
  omega
def rPop : V → List V → Hp → VK → Prop := fun x vs H Q => ∃ l xs y, x = .ref l ∧ vs = [] ∧ H l = some (.lst xs) ∧ xs[xs.length - 1]? = some y ∧ Q y (upd H l (.lst xs.dropLast))
theorem mt_pop : MtM X "list.pop" rPop := by
  intro pins s σ H x vs v us Q I rx rv h
  obtain ⟨l, xs, y, rfl, rfl, hH, hy, q⟩ := h
  cases rx
  have hus := rv.zero
  subst hus
  obtain ⟨z, its, n, r, hl, e⟩ := I.lstM hH
  obtain ⟨u, hu, ru⟩ := r.get hy
  have hy' : its.toArray[its.toArray.size - 1]? = some u := by
    show its.toArray[its.length - 1]? = some u
    rw [← Array.getElem?_toList, ← hl]
    exact hu
  refine call_meets F.slot_list_pop ⟨_, e, rfl⟩ F.entry_list_pop (F.args_list_pop_1 _) (MeetsSeq.list_pop_last l its.toArray n u hy' (by rw [List.size_toArray]; omega)) ⟨e, ?_⟩
  refine ⟨y, _, I.lset (its' := its.dropLast) hH e ?_ r.dropLast ?_, ru, q⟩
  · show its.toArray.eraseIdxIfInBounds (its.toArray.size - 1) = its.dropLast.toArray
    rw [List.size_toArray, List.eraseIdxIfInBounds_toArray, erase_last]
  · rw [List.length_dropLast]
    omega
def rCat : R2 := fun x y H Q => ∃ l b xs zs, x = .ref l ∧ y = .ref b ∧ H l = some (.lst xs) ∧ H b = some (.lst zs) ∧ xs.length + zs.length ≤ sizeLine ∧ ∀ p, H p = none → Q (.ref p) (upd H p (.lst (xs ++ zs)))
theorem op_cat : OpR X (binaryOp .Add) rCat := by
  intro pins s σ H x y v u Q I rx ry h
  obtain ⟨l, b, xs, zs, rfl, rfl, hH, hB, hz, q⟩ := h
  cases rx
  cases ry
  obtain ⟨z, its, n, r, hl, e⟩ := I.lstM hH
  obtain ⟨z2, its2, n2, r2, hl2, e2⟩ := I.lstM hB
  refine PySem.P.add_list e e2 ?_ (by rw [List.size_toArray, List.size_toArray]; omega)
  have ea : its.toArray ++ its2.toArray = (its ++ its2).toArray := by simp
  rw [ea]
  exact ⟨.ref _, _, I.lnew (t' := s.toks) (r.append r2) (by rw [List.length_append]; omega), rfl, q _ I.fresh⟩
end
section
variable {prog : Program} {w : World} {A : Around} {E : Value → Shared → Prop} {s : Shared}
set_option maxRecDepth 100000 in
end
section
variable {X : Cx}
end
end L2
namespace L2
open PySem PySem.Spec PyProof.Rows
section
variable {κ : Type} [DecidableEq κ]
end
section
variable {P : Program} {w : World} {H : Hp} {h : Heap} {a : Addr}
end
section
variable {X : Cx} {pins : List (Addr × Obj)} {σ : St} {H : Hp} {s : Shared} {a : Addr} {y v : V} {u r : Value} {o : Option V} {A : Around} {E : Value → Shared → Prop}
end
section
variable {X : Cx} {pins : List (Addr × Obj)} {σ : St} {H : Hp} {s : Shared} {a : Addr} {kvs : List (Key × V)} {k : Key} {u : Value} {A : Around} {E : Value → Shared → Prop}
end
section
variable {X : Cx} {o i e value : Expr} {pos pos' tpos : Pos} {td ty tv : TE}
end
section
variable {X : Cx} {pos : Pos}
end
section
variable {X : Cx} {pins : List (Addr × Obj)} {σ : St} {H : Hp} {s : Shared} {a : Addr} {y d : V} {u r : Value} {o : Option V} {A : Around} {E : Value → Shared → Prop}
end
section
variable {X : Cx} {o e f : Expr} {apos cpos : Pos} {td ty tx : TE}
end
section
variable {X : Cx} {pins : List (Addr × Obj)} {σ : St} {H : Hp} {s : Shared} {a : Addr} {kvs : List (Key × V)} {A : Around} {E : Value → Shared → Prop}
end
section
variable {X : Cx} {pins : List (Addr × Obj)} {σ : St} {H : Hp} {s : Shared} {a : Addr} {y : V} {u : Value} {A : Around} {E : Value → Shared → Prop}
end
end L2
namespace Att
open PySem PySem.W PySem.Calls PyProof.Rows
theorem ints_of_wellAll {P : Params} {h : Heap} : ∀ (ns : List Int) (vs : List Value), WellAll P h vs (ns.map WData.int) → IntsAre vs ns := by
  intro ns
  induction ns with
  | nil =>
    intro vs w
    rw [List.map_nil] at w
    cases w
    exact .nil
  | cons n ns ih =>
    intro vs w
    rw [List.map_cons] at w
    cases w with
    | cons a b =>
      cases a
      exact .cons _ _ (ih _ b)
theorem script_of {l : OpenLaw} {n : Nat} (hn : l.most = some n) {P : Params} {h : Heap} {args : List WData} {vals : List Value}
    (hpre : l.row.toRowW.claim.pre args = true) (hwl : WellAll P h vals args) :
    ∃ a vs ns, vals = [Value.ref a] ∧ args = [WData.list (ns.map WData.int)] ∧ h.get? a = some { cls := .type "list", data := .seq vs.toArray } ∧ IntsAre vs ns ∧ ns.length ≤ n := by
  have hsh : WShape.hasAll [] args [.list .int] = true := (pre_splitW hpre).1
  have hc : l.pre.holds [] { args := args } = true := (pre_splitW hpre).2
  obtain ⟨d, r, rfl, h1, h2⟩ := hasAllW_cons hsh
  obtain rfl := hasAllW_nil h2
  obtain ⟨xs, rfl, h3⟩ := hasW_list h1
  obtain ⟨ns, rfl⟩ := items_int h3
  have hlen : ns.length ≤ n := by
    unfold OpenLaw.pre at hc
    have h4 : (WTm.not (.lt (.lit (.int (n : Int))) (.len (.arg 0)))).holds [] { args := [.list (ns.map .int)] } = true := by
      have h4 := (holds_andW hc).1
      rw [hn] at h4
      exact h4
    have h5 := condW_of h4 (w_not (w_lt w_lit (w_len_list (w_arg rfl))))
    rw [List.length_map] at h5
    refine Nat.le_of_not_lt fun q => ?_
    have q' : (n : Int) < ((ns.length : Nat) : Int) := by omega
    first
      | (rw [decide_eq_true q'] at h5; exact absurd h5 (by decide))
      | (simp at h5; omega)
  cases hwl with
  | cons w1 w2 =>
    cases w2
    cases w1 with
    | list ho hall => exact ⟨_, _, ns, rfl, rfl, ho, ints_of_wellAll ns _ hall, hlen⟩
theorem post_true (l : OpenLaw) (args : List WData) : l.row.toRowW.claim.post args (.bool true) args = true :=
  postW_of (r := l.row.toRowW) (X := (true == true))
    (show WShape.has [] (.bool true) .bool = true by first | rfl | decide | simp [WShape.has, WShape.arms, WShape.armsAll])
    (show (WTm.eq .res (.lit (.bool true))).value [] { args := args, res := some (.bool true), after := args } = some (.bool (true == true)) from w_eq_bool (w_res rfl) w_lit) rfl
theorem attach_call {l : OpenLaw} {n : Nat} {q : Program} {loose : List Str} {XP : (Str → Option Value) → Heap → Prop} {YP : World → Heap → Prop} {d : DefRec}
    (hn : l.most = some n) (hdf : d.params.defaults = [])
    (call : ∀ (w : World) (s₀ s₁ : Shared) (mg mb : Str → Option Value) (fa : Addr) (o : Obj) (pm cd doc : Value) (a : Addr) (vs : List Value) (ns : List Int),
      Ground q loose [] XP w s₀ mg mb s₁.heap → YP w s₁.heap →
      s₁.heap.get? fa = some o → o.data = .func (docDef d.name d.params d.body d.scope pm cd doc) → s₁.heap.CodeRec cd d.name → mg d.name = some (.ref fa) →
      s₁.heap.get? a = some { cls := .type "list", data := .seq vs.toArray } → IntsAre vs ns → ns.length ≤ n → s₁.gens = #[] →
      codeAny (model l.prog w) callerA (.call (.ref fa) ⟨[.ref a], []⟩) (fun r s' => r = .ok (.ret (.bool true)) ∧ OldK s₁.heap s'.heap ∧ s'.os = s₁.os ∧ AllBare s'.gens) s₁) :
    WalkO q loose XP YP l.row.toRowW d [] (fun f vs => PySem.call f vs) := by
  intro w s₀ s₁ mg mb G Y fa o pm cd doc dV kV ho hd hcd hD hmg hg args vals as hpre hlay hrd hwl hlo
  obtain rfl : dV = .none := Dflts.none hD hdf
  obtain rfl : kV = .none := Dflts.noKw hD
  obtain ⟨a, vs, ns, rfl, rfl, hobj, hints, hlen⟩ := script_of hn hpre hwl
  refine enter_call (codeAny_mono (call w s₀ s₁ mg mb fa o pm cd doc a vs ns G Y ho (fd_plain hd) hcd hmg hobj hints hlen hg) fun r s' hq => ?_)
  obtain ⟨rfl, h2, h3, h4⟩ := hq
  exact ⟨.inl ⟨.bool true, .bool true, [], rfl, fun _ => rfl, .bool true, post_true l _, fun _ => ⟨List.Pairwise.nil, fun _ hm => (nomatch hm)⟩⟩, h2, h3, h4⟩
section
variable {prog : Program} {w : World} {A : Around} {E : Value → Shared → Prop} {s : Shared} {K : Frag}
end
end Att
namespace L2
open PySem PySem.Spec PyProof.Rows
theorem vals_ints : ∀ {vs : List Value} {ns : List Int}, IntsAre vs ns → Vals (ns.map V.int) vs
  | _, _, .nil => .nil
  | _, _, .cons n t h => .cons ⟨t, rfl⟩ (vals_ints h)
def Only (H : Hp) : Prop := ∀ b, H b = none ∨ ∃ o xs, H b = some (.frz o (.lst xs))
theorem law_call {P : Program} {w : World} {K : PySem.W.Frag} {mg mb : Str → Option Value} {CX : CXT} {k : Nat} {fa a : Addr} {fd : FuncData} {x : Str} {sp : Sp} {s₁ : Shared} {vs : List Value} {ns : List Int}
    (KX : K.In s₁.heap) (hns : s₁.heap.Ns mainGlobals mg) (hb : s₁.heap.Ns builtinsNs mb) (hbb : ∀ x : Str, x ≠ "__name__" → mb x = bootBuiltins x) (hlim : s₁.heap.NoLimit) (hg : s₁.gens = #[])
    (ha : s₁.heap.get? a = some { cls := .type "list", data := .seq vs.toArray }) (hi : IntsAre vs ns) (hl : ns.length ≤ sizeLine) (hr : Room k callerA)
    (F : ∀ base : Heap, K.In base → base.Ns mainGlobals mg → FnOk P w K mg base CX k fa fd [x] sp) (hbind : ∀ (s : Shared) (u : Value), BindsTo s fd ⟨[u], []⟩ [(x, u)])
    (hsp : ∀ H : Hp, Only H → SqL K H a (ns.map V.int) → sp [.ref a] H (fun v _ => v = .bl true) fun _ _ _ => False)
    (hCX : ∀ H e s', CX [] H s₁ (fun _ _ _ => False) e s' → False) :
    codeAny (model P w) callerA (.call (.ref fa) ⟨[.ref a], []⟩) (fun r s' => r = .ok (.ret (.bool true)) ∧ OldK s₁.heap s'.heap ∧ s'.os = s₁.os ∧ AllBare s'.gens) s₁ := by
  have rv := vals_ints hi
  have lenV := hi.length
  have core : ∀ H : Hp, Only H → SqL K H a (ns.map V.int) → HOk P w H s₁.heap → (∀ b, H b ≠ none → b = a) → (H a ≠ none → K.lookup a = none) →
      codeAny (model P w) callerA (.call (.ref fa) ⟨[.ref a], []⟩) (fun r s' => r = .ok (.ret (.bool true)) ∧ OldK s₁.heap s'.heap ∧ s'.os = s₁.os ∧ AllBare s'.gens) s₁ := by
    intro H hO hS hok hA hK
    have base_of : ∀ {b : Addr} {o : Obj}, s₁.heap.get? b = some o → H b = none → (hidT s₁.heap H).get? b = some o := fun e n => hidT_get e n
    have noA : ∀ {b : Addr} {o : Obj} {es : Array DictEntry} {ep : Nat}, s₁.heap.get? b = some o → o.data = .dict es ep → H b = none := fun {b o es ep} e d => by
      cases q : H b with
      | none => rfl
      | some u =>
        have e' : b = a := hA b (by rw [q]; simp)
        subst e'
        rw [ha] at e; cases e
        have d' : Data.seq vs.toArray _ = Data.dict es ep := d
        cases d'
    have nsK : ∀ {b : Addr} {m : Str → Option Value}, s₁.heap.Ns b m → (hidT s₁.heap H).Ns b m := fun {b m} ⟨o, es, ep, e, d, r⟩ => ⟨o, es, ep, base_of e (noA e d), d, r⟩
    have hKb : K.In (hidT s₁.heap H) := fun b o e => base_of (KX b o e) (by
      cases q : H b with
      | none => rfl
      | some u =>
        have e' : b = a := hA b (by rw [q]; simp)
        subst e'
        rw [hK (by rw [q]; simp)] at e; cases e)
    have hM : Mod K mg (hidT s₁.heap H) := ⟨hKb, nsK hns, ⟨mb, nsK hb, hbb⟩, let ⟨mc, h1, h2⟩ := hlim; ⟨mc, nsK h1, h2⟩⟩
    have e0 : Env0 P w K mg (hidT s₁.heap H) callerA [] s₁ H := ⟨rfl, hM, fun b o e => of_hidT e, Nat.le_of_eq (hidT_size _ _), trivial, fun b hb => absurd (show b ∈ ([] : List Addr) from hb) (by simp), hok, .of_eq hg⟩
    refine codeAny_mono ((F _ hKb (nsK hns)).run callerA [] s₁ H ⟨[.ref a], []⟩ [.ref a] [.ref a] _ _ hr e0 (hbind s₁ (.ref a)) (.cons rfl .nil) (hsp H hO hS)) fun r s' h => ?_
    cases r with
    | error e => exact (hCX H e s' h).elim
    | ok fl =>
      cases fl with
      | next => exact False.elim h
      | brk => exact False.elim h
      | cont => exact False.elim h
      | ret u =>
        obtain ⟨v, H', os, bare, un, hok', r', q⟩ := h
        have q' : v = .bl true := q
        subst q'
        obtain rfl : u = Value.bool true := r'
        refine ⟨rfl, OldK.of_keep fun b o e => ?_, os, bare⟩
        cases q : H b with
        | none => exact un.keep b o e q (by intro z; exact absurd (show b ∈ ([] : List Addr) from z) (by simp)) (by simp)
        | some u =>
          rcases hO b with z | ⟨ob, xs, z⟩
          · rw [q] at z; cases z
          · have z2 := un.frzs b ob _ z
            obtain ⟨e1, _⟩ := hok b _ z
            obtain ⟨e2, _⟩ := hok' b _ z2
            rw [e] at e1; cases e1
            exact e2
  cases hk : K.lookup a with
  | some o =>
    have e := KX a o hk
    rw [ha] at e
    cases e
    refine core (fun _ => none) (fun _ => .inl rfl) (.inr ⟨_, vs.toArray, _, hk, rfl, rfl, rfl, by rw [List.size_toArray, lenV]; exact hl, by simpa using rv⟩) (fun b u z => by have z' : (none : Option HO) = some u := z; cases z') (fun b z => absurd rfl z) fun z => absurd rfl z
  | none =>
    refine core (fun b => if b = a then some (.frz { cls := .type "list", data := .seq vs.toArray } (.lst (ns.map V.int))) else none) (fun b => ?_) (.inl (.inr ⟨{ cls := .type "list", data := .seq vs.toArray }, if_pos rfl⟩)) (fun b u z => ?_) (fun b z => ?_) fun _ => hk
    · by_cases hb : b = a
      · exact .inr ⟨_, _, if_pos hb⟩
      · exact .inl (if_neg hb)
    · by_cases hb : b = a
      · have z' := (if_pos hb).symm.trans z
        cases z'
        subst hb
        exact ⟨ha, by rw [List.length_map]; exact hl, vs, _, rv, ha⟩
      · have z' := (if_neg hb).symm.trans z
        cases z'
    · by_cases hb : b = a
      · exact hb
      · exact absurd (if_neg hb) z
end L2
namespace L2
open PySem PySem.Spec PyProof.Rows
end L2
/- THE LAST THEOREM (shape; LID, My.* are yours):
   My.Adr: a structure of the addresses that your layer names (classes, functions); My.Txt K t: a structure (Prop) of the equations over K;
   My.txt_mk : {K} {implicit addresses ..} (e1 : nsIn K mainGlobals "law" = some (some (.ref f))) (e2 : K.lookup f = some ⟨oc, od, .func (fnOf "law" "law" params body scope dV kV doc pm an cdv ct), sl⟩) (e3 : codeIn K cdv "law" = true) .. : ∃ t, My.Txt K t
set_option maxRecDepth 100000 in
set_option maxHeartbeats 0 in
theorem PySem.Challenge.cw_LID_holds : PySem.Challenge.rw_LID.Holds := by
  w_on; o_law; k_head; (case hw => w_witness2)
  k_fill
  refine L2.walk_of (l := PySem.Challenge.rw_LID) (n := 63) (k := 40) (x := "script") (CX := fun w => ..) (sp := fun _ => My.sp_law) rfl (by decide) rfl ⟨rfl, by decide, by decide⟩ (fun w h Y => PySem.W.kIn_of Y) ?F ?S ?C
  case F =>
    intro w mg fa h KX G hmg
    have T : ∃ t, My.Txt (L2.KOf KX) t := by
      dsimp only [L2.KOf]                          -- K must stand as «<heap const> w.params» for k_is
      refine' My.txt_mk ?e1 ?e2 ?e3 ..
      (case e1 => PySem.W.k_is)                    -- in the order: a name -> its address -> its object -> its parts
      (case e2 => PySem.W.k_is)
      ..
    obtain ⟨t, T⟩ := T
    have e0 := hmg.symm.trans (PySem.W.mg_of KX G T.law)
    cases e0                                       -- fa is the law's own address
    exact ⟨_, fun s u => .of_eq rfl, fun base kb nb => My.law_fn T kb nb⟩     -- if «.of_eq rfl» comes too early: refine' ⟨_, ?b, fun base kb nb => My.law_fn T kb nb⟩; exact fun s u => .of_eq rfl
  case S => exact fun w H a ns hl hO hS => ..
  case C => exact ..
(the tactic k_is has no namespace: write k_is) -/
namespace L2
open PySem PySem.Spec PyProof.Rows
def inClass (s : Stmt) (j : Nat) : Stmt := match s with
  | .ClassDef _ _ _ body _ _ _ _ _ _ _ => body.getD j (.Pass ⟨0, 0, 0, 0⟩)
  | _ => .Pass ⟨0, 0, 0, 0⟩
def defArgs (s : Stmt) : Arguments := match s with
  | .FunctionDef _ a _ _ _ _ _ _ _ _ => a
  | _ => { posonlyargs := [], args := [], vararg := none, kwonlyargs := [], kw_defaults := [], kwarg := none, defaults := [] }
def defBody (s : Stmt) : List Stmt := match s with
  | .FunctionDef _ _ b _ _ _ _ _ _ _ => b
  | _ => []
def defScope (s : Stmt) : Scope := match s with
  | .FunctionDef _ _ _ _ _ _ sc _ _ _ => sc
  | _ => { kind := .function, names := [], isGenerator := false, isCoroutine := false }
abbrev CX0 : CXT := fun _ _ _ _ _ _ => False
abbrev E0 : XK := fun _ _ _ => False
theorem pass0 {X : Cx} : Passes CX0 X E0 := fun _ _ _ _ _ _ _ h => h.elim
structure Fun (K : PySem.W.Frag) (x qual : Str) (st : Stmt) (f : Addr) (fd : FuncData) : Prop where
  ex : ∃ (oc : Value) (od : Option Addr) (kV doc pm : Value) (an : Option Addr) (cdv ct : Value) (osl : Array (Option Value)),
    fd = PySem.W.fnOf x qual (defArgs st) (defBody st) (defScope st) .none kV doc pm an cdv ct ∧ K.lookup f = some ⟨oc, od, .func fd, osl⟩ ∧ PySem.W.codeIn K cdv qual = true
  kp : PySem.W.keepIn K (.ref f) = true
section
variable {P : Program} {w : World} {K : PySem.W.Frag} {mg : Str → Option Value} {base : Heap}
theorem Fun.ok {x qual : Str} {st : Stmt} {f : Addr} {fd : FuncData} {N ps : List Str} {k : Nat} {sp : Sp} (F : Fun K x qual st f fd) (S : FnScope N ps (defScope st)) (len : ∀ vs H Q E, sp vs H Q E → vs.length = ps.length)
    (hbody : ∀ (cdv : Value) (A : Around) (outer : List Env) (s : Shared) (H : Hp) (vs : List V) (Q : VK) (E : XK), Room k (A.deeper (envOfC qual (defScope st) s.heap.objs.size f cdv)) → sp vs H Q E →
      ∃ t, PSs (cxOf CX0 P w K mg base N qual (defScope st) f cdv A outer s H E).nox (defBody st) t ∧ t { nx := fun _ H' => Q .non H', rt := Q } (start N vs) H) : FnOk P w K mg base CX0 (k + 1) f fd ps sp := by
  obtain ⟨oc, od, kV, doc, pm, an, cdv, ct, osl, rfl, lk, hcd⟩ := F.ex
  refine fn_of lk hcd S len fun A outer s H vs Q E hr hsp => ?_
  obtain ⟨t, h, q⟩ := hbody cdv A outer s H vs Q E hr hsp
  exact ⟨t, h.nox, q⟩
theorem Fun.binds {x qual : Str} {st : Stmt} {f : Addr} {fd : FuncData} {ps : List Str} (F : Fun K x qual st f fd)
    (h : ∀ (kV doc pm : Value) (an : Option Addr) (cdv ct : Value) (us : List Value), us.length = ps.length → bindArgs (PySem.W.fnOf x qual (defArgs st) (defBody st) (defScope st) .none kV doc pm an cdv ct) ⟨us, []⟩ = pure (ps.zip us)) : Binds K fd ps [] := by
  obtain ⟨oc, od, kV, doc, pm, an, cdv, ct, osl, rfl, lk, hcd⟩ := F.ex
  exact .all (h kV doc pm an cdv ct)
theorem fun_mk {x qual : Str} {st : Stmt} {f : Addr} {oc : Value} {od an : Option Addr} {osl : Array (Option Value)} {kV doc pm cdv ct : Value} (l : K.lookup f = some ⟨oc, od, .func (PySem.W.fnOf x qual (defArgs st) (defBody st) (defScope st) .none kV doc pm an cdv ct), osl⟩)
    (c : PySem.W.codeIn K cdv qual = true) (k : PySem.W.keepIn K (.ref f) = true) : Fun K x qual st f (PySem.W.fnOf x qual (defArgs st) (defBody st) (defScope st) .none kV doc pm an cdv ct) := ⟨⟨oc, od, kV, doc, pm, an, cdv, ct, osl, rfl, l, c⟩, k⟩
end
section
variable {X : Cx}
theorem pv (i : Nat) {x : Str} {pos : Pos} (hN : X.N[i]? = some x := by rfl) (hv : Vis X.env.scope x := by first | exact Or.inl rfl | exact Or.inr (Or.inl rfl) | exact Or.inr (Or.inr rfl)) (hd : (x == ("__debug__" : Str)) = false := by decide)
    (hcd : (x == ("__classdict__" : Str)) = false := by decide) : PE X (.Name x pos) (tVar i) := pe_var hN hv hd hcd
end
theorem iteF {A B : Prop} (h : B) : if false = true then A else B := by
  rw [if_neg Bool.false_ne_true]
  exact h
theorem iteT {A B : Prop} (h : A) : if true = true then A else B := by
  rw [if_pos rfl]
  exact h
theorem ite2 {c A B : Prop} [Decidable c] (h1 : c → A) (h2 : ¬ c → B) : if c then A else B := by
  by_cases h : c
  · rw [if_pos h]
    exact h1 h
  · rw [if_neg h]
    exact h2 h
def Same (H H' : Hp) : Prop := ∀ b o, H b = some o → H' b = some o
theorem Same.refl (H : Hp) : Same H H := fun _ _ h => h
theorem Same.trans {H H1 H2 : Hp} (a : Same H H1) (b : Same H1 H2) : Same H H2 := fun c o h => b c o (a c o h)
theorem Same.free {H H' : Hp} (e : Same H H') {l : Addr} (h : H' l = Option.none) : H l = Option.none := by
  cases q : H l with
  | none => rfl
  | some o =>
    rw [e l o q] at h
    cases h
theorem Same.seq {K : PySem.W.Frag} {H H' : Hp} {a : Addr} {xs : List V} (e : Same H H') (h : SqL K H a xs) : SqL K H' a xs := by
  rcases h with (h | ⟨o, h⟩) | h
  · exact .inl (.inl (e _ _ h))
  · exact .inl (.inr ⟨o, e _ _ h⟩)
  · exact .inr h
section
variable {κ : Type} [DecidableEq κ]
end
end L2
set_option Elab.async false
set_option linter.all false
set_option maxRecDepth 100000
set_option maxHeartbeats 4000000
namespace L2
open PySem PySem.Spec PyProof.Rows
theorem clos_aux {env : Env} : ∀ (names : List (Str × NameKind)) (cs : List (Str × Addr)), (∀ x ∈ names, x.2 = .free → ∃ c, env.cells.lookup x.1 = some c) → (∀ x c, cs.lookup x = some c → env.cells.lookup x = some c) →
    ∃ cl : List (Str × Addr), (forIn names cs fun x r => if (x.snd == NameKind.free) = true then (do let a ← cellOf env x.fst; pure (ForInStep.yield ((x.fst, a) :: r)) : Sem (ForInStep (List (Str × Addr)))) else pure (ForInStep.yield r)) = pure cl ∧
      (∀ x c, cl.lookup x = some c → env.cells.lookup x = some c) ∧ ∀ x, ((x, NameKind.free) ∈ names ∨ ∃ c, cs.lookup x = some c) → ∃ c, cl.lookup x = some c
  | [], cs, _, h2 => ⟨cs, rfl, h2, fun x hx => hx.elim (fun z => nomatch z) id⟩
  | (n, k) :: r, cs, h1, h2 => by
    rw [List.forIn_cons]
    by_cases hk : k = .free
    · subst hk
      obtain ⟨c, hc⟩ := h1 (n, .free) List.mem_cons_self rfl
      obtain ⟨cl, e, q1, q2⟩ := clos_aux r ((n, c) :: cs) (fun x hx => h1 x (List.mem_cons_of_mem _ hx)) (fun x d hd => by
        rw [List.lookup_cons] at hd
        split at hd
        · rename_i hx
          cases hd
          have : x = n := by simpa using hx
          subst this; exact hc
        · exact h2 x d hd)
      refine ⟨cl, ?_, q1, fun x hx => q2 x ?_⟩
      · simp only [beq_self_eq_true, if_true]
        rw [show cellOf env n = pure c by unfold cellOf; rw [hc]]
        simp only [pure_bind]
        exact e
      · rcases hx with hx | ⟨d, hd⟩
        · rcases List.mem_cons.mp hx with z | z
          · cases z
            exact .inr ⟨c, by rw [List.lookup_cons]; simp⟩
          · exact .inl z
        · refine .inr ?_
          rw [List.lookup_cons]
          split
          · exact ⟨_, rfl⟩
          · exact ⟨d, hd⟩
    · obtain ⟨cl, e, q1, q2⟩ := clos_aux r cs (fun x hx => h1 x (List.mem_cons_of_mem _ hx)) h2
      have hb : (k == NameKind.free) = false := by simpa using hk
      refine ⟨cl, ?_, q1, fun x hx => q2 x ?_⟩
      · simp only [hb, Bool.false_eq_true, if_false, pure_bind]
        exact e
      · rcases hx with hx | hx
        · rcases List.mem_cons.mp hx with z | z
          · cases z; exact absurd rfl hk
          · exact .inl z
        · exact .inr hx
theorem clos_of {env : Env} {scope : Scope} (h : ∀ x ∈ scope.names, x.2 = .free → ∃ c, env.cells.lookup x.1 = some c) :
    ∃ cl : List (Str × Addr), closureFor scope env = pure cl ∧ (∀ x c, cl.lookup x = some c → env.cells.lookup x = some c) ∧ ∀ x, (x, NameKind.free) ∈ scope.names → ∃ c, cl.lookup x = some c := by
  obtain ⟨cl, e, q1, q2⟩ := clos_aux scope.names [] h (fun x c z => by simp at z)
  refine ⟨cl, ?_, q1, fun x hx => q2 x (.inl hx)⟩
  simp only [closureFor]
  rw [e]
  rfl
theorem comp_loop {prog : Program} {w : World} {A : Around} {R : Result → Shared → Prop} {s : Shared} {elt target iter : Expr} {ifs : List Expr} {scope : Scope} {pos : Pos} {it acc : Value} {env : Env} (I : Nat → Shared → Prop)
    (turn : ∀ n s, I n s → wpAny (model prog w) A (pyNext it) (fun r s₁ => match r with
      | none => R (.ok .next) s₁
      | some v => wpAny (model prog w) A (letOwnedTupleGo target it v) (fun _ s₁' => wpAny (model prog w) A (assign target env v) (fun _ s₂ =>
          wpAny (model prog w) A (forIn ifs true fun c r => if r = true then do let ok ← isTrue c env (eval c env); pure (ForInStep.yield ok) else pure (ForInStep.yield r)) (fun ok s₃ =>
            if ok = true then wpAny (model prog w) A (eval elt env) (fun x s₄ =>
              wpAny (model prog w) A (call (.builtin "list.append") [acc, x]) (fun _ s₅ => ∃ m, m < n ∧ I m s₅) (fun _ _ => False) s₄) (fun _ _ => False) s₃
            else ∃ m, m < n ∧ I m s₃) (fun _ _ => False) s₂) (fun _ _ => False) s₁') (fun _ _ => False) s₁) (fun _ _ => False) s)
    (n : Nat) (h : I n s) :
    codeAny (model prog w) A (.compLoop (.ListComp elt [⟨target, iter, ifs, 0⟩] scope pos) 0 it acc env) R s := by
  refine codeAny_loop rfl I (fun n s hI => ?_) n h
  show wpAny _ A ((compTurn (.ListComp elt [⟨target, iter, ifs, 0⟩] scope pos) 0 it acc env).onRaise (fun x => do noteFrame x env; theTreesLotGoes x)) _ _ s
  refine wpAny_noted ?_
  rw [compTurn_list]
  refine wpAny_bind (wpAny_standAt (wpAny_bind (wpAny_mono (turn n s hI) (fun r s₁ h₁ => ?_) fun _ _ h' => h'.elim)))
  cases r with
  | none => exact wpAny_pure h₁
  | some v =>
    refine wpAny_bind (wpAny_mono h₁ (fun _ s₁' h₁' => ?_) fun _ _ h' => h'.elim)
    refine wpAny_bind (wpAny_mono h₁' (fun _ s₂ h₂ => wpAny_bind (wpAny_mono h₂ (fun ok s₃ h₃ => ?_) fun _ _ h' => h'.elim)) fun _ _ h' => h'.elim)
    cases ok with
    | false => exact wpAny_pure ⟨rfl, h₃⟩
    | true =>
      exact wpAny_bind (wpAny_bind (wpAny_mono h₃ (fun x s₄ h₄ => wpAny_bind (wpAny_mono h₄ (fun _ s₅ h₅ => wpAny_pure (wpAny_pure ⟨rfl, h₅⟩)) fun _ _ h' => h'.elim)) fun _ _ h' => h'.elim))
end L2
set_option maxRecDepth 100000
namespace L2
open PySem PySem.Spec PyProof.Rows
abbrev compCx (X : Cx) (scope : Scope) (N : List Str) (cl : List (Str × Addr)) (C : Addr) (s : Shared) (H : Hp) (ex : List Addr) (pn : List (Addr × Obj)) : Cx where
  prog := X.prog
  w := X.w
  K := X.K
  mg := X.mg
  base := X.base
  A := X.A
  N := N
  s₀ := s
  H₀ := H
  env := compEnvC scope cl C X.env
  outer := X.stack
  stack := X.stack
  ex := ex
  calm := X.calm
  fn := fun _ => false
  pn := pn
  xe := fun _ _ => False
def PTs (X : Cx) (ifs : List Expr) (t : TT) : Prop :=
  ∀ (pins : List (Addr × Obj)) (s : Shared) (σ : St) (H : Hp) (Q : Bool → Hp → Prop), Inv X pins σ H s → t σ H Q →
    wpAny (model X.prog X.w) X.A (forIn ifs true fun c r => if r = true then do let ok ← isTrue c X.env (eval c X.env); pure (ForInStep.yield ok) else pure (ForInStep.yield r)) (TP X pins σ Q) X.xe s
def tYes : TT := fun _ H Q => Q true H
theorem pts_nil {X : Cx} : PTs X [] tYes := fun _ _ _ H _ I h => wpAny_tests_nil ⟨H, I, h⟩
abbrev TTg := V → Hp → (List V → Prop) → Prop
def PTg (X : Cx) (k : Nat) (tg : Expr) (tt : TTg) : Prop :=
  ∀ (pins : List (Addr × Obj)) (s : Shared) (σ : St) (H : Hp) (v : V) (u : Value) (Q : List V → Prop), Inv X pins σ H s → k ≤ σ.length → RelV v u → tt v H Q →
    wpAny (model X.prog X.w) X.A (assign tg X.env u) (fun _ s' => ∃ ws, ws.length = k ∧ Q ws ∧ Inv X pins (ws.map some ++ σ.drop k) H s') X.xe s
def ttName : TTg := fun v _ Q => Q [v]
theorem ptg_name {X : Cx} {x : Str} {pos : Pos} (hN : X.N.Nodup) (hi : X.N[0]? = some x) (hx : X.env.scope.names.lookup x = some .local) : PTg X 1 (.Name x pos) ttName := by
  intro pins s σ H v u Q I hl r h
  refine wpAny_assign_Name (store_ok I hN hi (.inl hx) r (fun s' I' => ⟨[v], rfl, h, ?_⟩) (.inr hx))
  cases σ with
  | nil => simp at hl
  | cons a t => exact I'
end L2
set_option maxRecDepth 100000
set_option maxHeartbeats 400000
namespace L2
open PySem PySem.Spec PyProof.Rows
end L2
set_option Elab.async false
set_option linter.all false
set_option maxRecDepth 100000
set_option maxHeartbeats 1000000
namespace L2
open PySem PySem.Spec PyProof.Rows
theorem HOk.adopt {P : Program} {w : World} {H : Hp} {h : Heap} {a : Addr} {o : HO} (x : HOk P w H h) (hn : H a = none) (new : ObjOk P w (upd H a o) h a o) : HOk P w (upd H a o) h := fun b u e => by
  by_cases hb : b = a
  · subst hb; rw [upd_same] at e; cases e; exact new
  · rw [upd_ne hb] at e
    exact (x b u e).stay (fun c v _ q => q) (fun c q => by rw [upd_ne (ne_of_none q hn)]; exact q) fun c xs q => by rw [upd_ne (ne_of_none q hn)]; exact q
theorem relabel_free {env : Env} {x : Str} : ∀ {names : List (Str × NameKind)}, names.lookup x = some .free →
    (names.map fun (n, k) => if (k == NameKind.free && env.scope.kind == .function && env.kindOf n == some .cell) then (n, NameKind.cell) else (n, k)).lookup x = some .cell ∨
    (names.map fun (n, k) => if (k == NameKind.free && env.scope.kind == .function && env.kindOf n == some .cell) then (n, NameKind.cell) else (n, k)).lookup x = some .free
  | [], h => by simp at h
  | (n, k) :: r, h => by
    have ih := @relabel_free env x r
    show (List.lookup x ((if (k == NameKind.free && env.scope.kind == .function && env.kindOf n == some .cell) = true then (n, NameKind.cell) else (n, k)) :: _) = _) ∨ (List.lookup x ((if (k == NameKind.free && env.scope.kind == .function && env.kindOf n == some .cell) = true then (n, NameKind.cell) else (n, k)) :: _) = _)
    cases hx : x == n with
    | true =>
      simp only [List.lookup_cons, hx] at h
      cases h
      split
      · left; simp [List.lookup_cons, hx]
      · right; simp [List.lookup_cons, hx]
    | false =>
      simp only [List.lookup_cons, hx] at h
      split
      · simp only [List.lookup_cons, hx]; exact ih h
      · simp only [List.lookup_cons, hx]; exact ih h
theorem relabel_back {env : Env} {x : Str} : ∀ {names : List (Str × NameKind)}, (∀ y ∈ names, y.2 ≠ .cell) →
    ((names.map fun (n, k) => if (k == NameKind.free && env.scope.kind == .function && env.kindOf n == some .cell) then (n, NameKind.cell) else (n, k)).lookup x = some .cell ∨
    (names.map fun (n, k) => if (k == NameKind.free && env.scope.kind == .function && env.kindOf n == some .cell) then (n, NameKind.cell) else (n, k)).lookup x = some .free) → (x, NameKind.free) ∈ names
  | [], _, h => by simp at h
  | (n, k) :: r, hc, h => by
    have ih := @relabel_back env x r (fun y hy => hc y (List.mem_cons_of_mem _ hy))
    have hk : k ≠ .cell := hc (n, k) List.mem_cons_self
    have h' : (List.lookup x ((if (k == NameKind.free && env.scope.kind == .function && env.kindOf n == some .cell) = true then (n, NameKind.cell) else (n, k)) :: _) = _) ∨ (List.lookup x ((if (k == NameKind.free && env.scope.kind == .function && env.kindOf n == some .cell) = true then (n, NameKind.cell) else (n, k)) :: _) = _) := h
    cases hx : x == n with
    | true =>
      have e : x = n := by simpa using hx
      subst e
      by_cases hc2 : (k == NameKind.free && env.scope.kind == .function && env.kindOf x == some .cell) = true
      · have : k = .free := by
          have := (Bool.and_eq_true_iff.mp (Bool.and_eq_true_iff.mp hc2).1).1
          simpa using this
        subst this; exact List.mem_cons_self
      · rw [if_neg hc2] at h'
        simp only [List.lookup_cons, hx] at h'
        rcases h' with h' | h'
        · exact absurd (Option.some.inj h') hk
        · cases h'; exact List.mem_cons_self
    | false =>
      refine List.mem_cons_of_mem _ (ih ?_)
      split at h' <;> (simp only [List.lookup_cons, hx] at h'; exact h')
structure CompOk (scope psc : Scope) (N PN : List Str) (k : Nat) (cap : List Nat) : Prop where
  kind : scope.kind = .function
  len : N.length = k + cap.length
  cell : ∀ y ∈ scope.names, y.2 ≠ .cell
  loc : ∀ y ∈ scope.names, y.2 = .local → scope.names.lookup y.1 = some .local
  free : ∀ y ∈ scope.names, y.2 = .free → psc.names.lookup y.1 = some .cell ∨ psc.names.lookup y.1 = some .free
  cap : ∀ j ∈ List.range cap.length, ∃ x i, N[k + j]? = some x ∧ cap[j]? = some i ∧ PN[i]? = some x ∧ scope.names.lookup x = some .free
  free2 : ∀ y ∈ scope.names, y.2 = .free → scope.names.lookup y.1 = some .free
def capS (σ : St) (cap : List Nat) : St := cap.map fun j => (σ[j]?).join
def tComp (wi : TI) (tt : TTg) (tc : TT) (te : TE) (cap : List Nat) : TE := fun σ H Q => wi σ H fun J H1 =>
  ∃ W : Nat → Nat → List V → Hp → Prop, (∃ m, W 0 m [] H1) ∧ ∀ i m ys H2, W i m ys H2 →
    (J.stop i H2 ∧ ys.length ≤ sizeLine ∧ ∀ p, H2 p = none → Q (.ref p) (upd H2 p (.lst ys))) ∨
    (J.go i H2 ∧ ∃ N : List V → Hp → Prop, (∀ ys' H', N ys' H' → ys'.length ≤ sizeLine ∧ ∃ m', m' < m ∧ W (i + 1) m' ys' H') ∧
      ∀ x H3, J.yld i H2 x H3 → tt x H3 fun ws => tc (ws.map some ++ capS σ cap) H3 fun b H4 =>
        if b = true then te (ws.map some ++ capS σ cap) H4 fun y H5 => N (ys ++ [y]) H5 else N ys H4)
structure Blk (X : Cx) (pins : List (Addr × Obj)) (H : Hp) (s : Shared) (C : Addr) : Prop where
  ns : ∃ m, s.heap.Ns C m
  un : H C = none
  ne : C ≠ X.env.locals
  new : X.s₀.heap.objs.size ≤ C
  cells : ∀ x c, X.env.cells.lookup x = some c → c ≠ C
  pins : ∀ p ∈ X.pn ++ pins, p.1 ≠ C
theorem Blk.turn {X : Cx} {pins : List (Addr × Obj)} {H : Hp} {σ : St} {s : Shared} {C : Addr} {h' : Heap} (B : Blk X pins H s C) (I : Inv X pins σ H s) (hs : Heap.SameBut C s.heap h') : Inv X pins σ H { s with heap := h' } :=
  I.turned (t' := s.toks) (fun b o hb e => hs.extBut b o hb e) B.un B.ne (.inr B.new) B.cells B.pins
theorem comp_start {X : Cx} {pins : List (Addr × Obj)} {σ : St} {H : Hp} {s : Shared} {scope : Scope} {N : List Str} {k : Nat} {cap : List Nat} {cl : List (Str × Addr)} {h₁ : Heap} {fp : List Addr} {tk : Nat} (I : Inv X pins σ H s) (S : CompOk scope X.env.scope N X.N k cap)
    (hcl1 : ∀ x c, cl.lookup x = some c → X.env.cells.lookup x = some c) (hcl2 : ∀ x, (x, NameKind.free) ∈ scope.names → ∃ c, cl.lookup x = some c)
    (hf : ∀ b ∈ fp, FpOk X pins H b) (ho : ∀ b ∈ fp, ∃ o, s.heap.get? b = some o)
    {m : Str → Option Value} (hns : h₁.Ns (s.heap.objs.size + 1) m)
    (hsb : ∀ b o, (s.heap.push { cls := .type "list", data := .seq #[] }).get? b = some o → h₁.get? b = some o) :
    Inv (compCx X scope N cl (s.heap.objs.size + 1) { s with heap := s.heap.push { cls := .type "list", data := .seq #[] } } H (s.heap.objs.size :: fp) (X.pn ++ pins))
      [(s.heap.objs.size, { cls := .type "list", data := .seq #[] })] (List.replicate k none ++ capS σ cap) H { s with heap := h₁, toks := tk } := by
  have Ik : Inv X pins σ H { s with heap := s.heap.push { cls := .type "list", data := .seq #[] } } := I.kept (t' := s.toks) fun b o e => Heap.get?_push_of_some _ e
  have hold : ∀ b o, s.heap.get? b = some o → h₁.get? b = some o := fun b o e => hsb b o (Heap.get?_push_of_some _ e)
  have ltD : ∀ {b o}, s.heap.get? b = some o → b < s.heap.objs.size := fun e => Heap.lt_size e
  have sizeP : (s.heap.push { cls := .type "list", data := .seq #[] }).objs.size = s.heap.objs.size + 1 := Heap.size_push ..
  have nD : H s.heap.objs.size = none := I.fresh
  have nC : H (s.heap.objs.size + 1) = none := I.hok.fresh (Nat.le_succ _)
  have cellLt : ∀ x c, X.env.cells.lookup x = some c → c < s.heap.objs.size := fun x c e => by
    obtain ⟨v, q⟩ := I.cell x c e
    exact q.lt
  have stkNe : ∀ b, b ≠ X.env.locals → b ∉ X.fs → b ∉ frs X.stack := fun b h1 h2 hb => (List.mem_cons.mp (I.stkSub b hb)).elim h1 h2
  have fpLt : ∀ b ∈ fp, b < s.heap.objs.size := fun b hb => by obtain ⟨o, e⟩ := ho b hb; exact Heap.lt_size e
  have hfn : ∀ {x : Str}, scope.names.lookup x = some .free → (x, NameKind.free) ∈ scope.names := fun e => PySem.mem_of_lookup e
  refine ⟨⟨I.ok.mod, S.kind, I.ok.glob, I.ok.blt, ?_, fun x y c h1 h2 => I.ok.inj x y c (hcl1 x c h1) (hcl1 y c h2), fun x hx => hcl2 x (relabel_back S.cell hx), fun x c z => (by cases z), I.ok.hd, I.ok.frames, .inl rfl, ?_, ?_, ?_, ?_, ?_, Ik.stack, I.stkFree⟩,
    rfl, I.bare, Un.kept hsb, ?_, ?_, nC, fun x c e => I.freeC x c (hcl1 x c e), ?_, I.hok.kept hold, ?_⟩
  · exact Nat.le_of_eq sizeP
  · intro b hb
    rcases List.mem_cons.mp hb with rfl | hb
    · exact ⟨Nat.ne_of_lt (Nat.lt_succ_self _), fun x c e => Nat.ne_of_lt (cellLt x c (hcl1 x c e))⟩
    · exact ⟨Nat.ne_of_lt (Nat.lt_succ_of_lt (fpLt b hb)), fun x c e => (hf b hb).2.2.2.2.1 x c (hcl1 x c e)⟩
  · intro b o e
    obtain ⟨e1, e2⟩ := I.bs b o e
    exact ⟨Heap.get?_push_of_some _ e1, e2⟩
  · show X.base.objs.size ≤ (s.heap.push _).objs.size
    rw [sizeP]
    exact Nat.le_succ_of_le (Nat.le_trans I.ok.bsz I.sz)
  · intro b o e hb
    obtain ⟨e1, e2⟩ := I.bs b o e
    rcases List.mem_cons.mp hb with rfl | hb
    · exact absurd (ltD e1) (Nat.lt_irrefl _)
    · rcases (hf b hb).2.2.2.1 with z | z
      · exact I.ok.noex b o e z
      · exact absurd (Nat.lt_of_lt_of_le (Heap.lt_size (I.ok.bs b o e).1) z) (Nat.lt_irrefl _)
  · intro b hb
    rcases List.mem_cons.mp hb with rfl | hb
    · exact stkNe _ (Nat.ne_of_gt I.lt) (I.nofs (Nat.le_refl _))
    · exact stkNe b (hf b hb).2.1 (hf b hb).2.2.1
  · refine ⟨m, hns, fun i x v h1 h2 h3 => ?_⟩
    have hik : k ≤ i := by
      refine Nat.le_of_not_lt fun hlt => ?_
      rw [List.getElem?_append_left (by simpa using hlt), List.getElem?_replicate] at h2
      split at h2 <;> cases h2
    obtain ⟨j, rfl⟩ := Nat.exists_eq_add_of_le hik
    rw [List.getElem?_append_right (by simp), List.length_replicate, Nat.add_sub_cancel_left] at h2
    have hj : j < cap.length := by
      have := (List.getElem?_eq_some_iff.mp h2).1
      simpa [capS] using this
    obtain ⟨x', i, e1, e2, e3, e4⟩ := S.cap j (List.mem_range.mpr hj)
    rw [show N[k + j]? = some x from h1] at e1
    cases e1
    have h2' : σ[i]? = some (some v) := by
      unfold capS at h2
      rw [List.getElem?_map, e2] at h2
      have h2' : (σ[i]?).join = some v := Option.some.inj h2
      cases q : σ[i]? with
      | none => rw [q] at h2'; cases h2'
      | some z => rw [q] at h2'; exact congrArg some h2'
    have hfm := hfn e4
    have pk := S.free _ hfm rfl
    obtain ⟨m0, _, hl⟩ := I.loc
    obtain ⟨u, r, lk⟩ := hl i x v e3 h2' (pk.elim (fun z => .inr (.inl z)) fun z => .inr (.inr z))
    refine ⟨u, r, ?_⟩
    rcases lk with ⟨kl, _⟩ | ⟨_, c, e, ic⟩
    · rcases pk with z | z
      · have : X.env.scope.names.lookup x = some .local := kl
        rw [z] at this; cases this
      · have : X.env.scope.names.lookup x = some .local := kl
        rw [z] at this; cases this
    · obtain ⟨c', ec⟩ := hcl2 x hfm
      have := hcl1 x c' ec
      rw [e] at this; cases this
      refine .inr ⟨?_, c, ec, ?_⟩
      · exact relabel_free e4
      · obtain ⟨ob, h3, h4⟩ := ic
        exact ⟨ob, hold _ _ h3, h4⟩
  · intro x c e
    obtain ⟨v, ob, h3, h4⟩ := I.cell x c (hcl1 x c e)
    exact ⟨v, ob, hold _ _ h3, h4⟩
  · intro p hp
    rcases List.mem_append.mp hp with hp | hp
    · obtain ⟨e, n, ne, nf, d⟩ := I.pin p hp
      exact ⟨hold _ _ e, n, Nat.ne_of_lt (Nat.lt_succ_of_lt (ltD e)), stkNe _ ne nf, d⟩
    · have : p = (s.heap.objs.size, { cls := .type "list", data := .seq #[] }) := by simpa using hp
      subst this
      refine ⟨hsb _ _ (Heap.get?_push_size _ rfl), nD, Nat.ne_of_lt (Nat.lt_succ_self _), stkNe _ (Nat.ne_of_gt I.lt) (I.nofs (Nat.le_refl _)), fun v z => by cases z⟩
  · show _ = N.length
    rw [S.len]
    simp [capS]
end L2
set_option Elab.async false
set_option linter.all false
set_option maxRecDepth 100000
set_option maxHeartbeats 1000000
namespace L2
open PySem PySem.Spec PyProof.Rows
theorem comp_core {X : Cx} {elt tg iter : Expr} {ifs : List Expr} {scope : Scope} {pos : Pos} {N : List Str} {k : Nat} {cap : List Nat} {wi : TI} {tt : TTg} {tc : TT} {te : TE} {cl : List (Str × Addr)}
    (hc : X.calm = true) (hi : PI X tg iter wi) (hg : ∀ cl C s H ex pn, PTg (compCx X scope N cl C s H ex pn) k tg tt) (ht : ∀ cl C s H ex pn, PTs (compCx X scope N cl C s H ex pn) ifs tc)
    (he : ∀ cl C s H ex pn, PE (compCx X scope N cl C s H ex pn) elt te) (S : CompOk scope X.env.scope N X.N k cap)
    (hcl1 : ∀ x c, cl.lookup x = some c → X.env.cells.lookup x = some c) (hcl2 : ∀ x, (x, NameKind.free) ∈ scope.names → ∃ c, cl.lookup x = some c)
    {pins : List (Addr × Obj)} {s : Shared} {σ : St} {H : Hp} {Q : VK} (I : Inv X pins σ H s) (h : tComp wi tt tc te cap σ H Q) {RR : Value → Addr → Result → Shared → Prop}
    (hRR : ∀ D C s1 H', Inv X pins σ H' s1 → Blk X pins H' s1 C → Q (.ref D) H' → RR (.ref D) C (.ok .next) s1) :
    wpAny (model X.prog X.w) X.A (eval iter X.env) (fun x s₁ => wpAny (model X.prog X.w) X.A (pyIter x) (fun it s₂ => wpAny (model X.prog X.w) X.A (newList []) (fun acc s₃ =>
      wpAny (model X.prog X.w) X.A (newFunctionEnv scope X.env.globals cl [] X.env.qual none .none (some X.env)) (fun cenv s₄ =>
        codeAny (model X.prog X.w) X.A (.compStart (.ListComp elt [⟨tg, iter, ifs, 0⟩] scope pos) 0 it acc { cenv with scope := relabel scope X.env }) (RR acc cenv.locals) s₄) X.xe s₃) X.xe s₂) X.xe s₁) X.xe s := by
  refine thn (hi pins s σ H _ I h) fun v s1 h1 => thn h1 fun itv s2 h2 => ?_
  obtain ⟨it, fp, tn, J, H2, e, I2, T, st2, f2, W, ⟨m0, w0⟩, turn⟩ := h2
  subst e
  refine wpAny_newObj_type (wpAny_newFunctionEnv S.cell (by intro y hy; simp at hy) (fun h₁ hns₁ hsb₁ => ?_) S.kind)
  dsimp only at hns₁ hsb₁ ⊢
  have hP : s2.heap.push { cls := .type "list", dict := none, data := .seq ([] : List Value).toArray } = s2.heap.push { cls := .type "list", data := .seq #[] } := rfl
  rw [hP] at hns₁ hsb₁ ⊢
  have hC : (s2.heap.push { cls := .type "list", data := .seq #[] }).objs.size = s2.heap.objs.size + 1 := Heap.size_push ..
  rw [hC] at hns₁ hsb₁ ⊢
  have hsb : ∀ b o, (s2.heap.push { cls := .type "list", data := .seq #[] }).get? b = some o → h₁.get? b = some o := fun b o e =>
    hsb₁.extBut b o (by have := Heap.lt_size e; rw [hC] at this; exact Nat.ne_of_lt this) (Heap.get?_push_of_some _ e)
  have hob : ∀ b ∈ fp, ∃ o, s2.heap.get? b = some o := fun b hb => by obtain ⟨o, e, _⟩ := T.obj _ _ st2 b hb; exact ⟨o, e⟩
  have IY := comp_start (N := N) (k := k) (cap := cap) (tk := s2.toks + ([] : List (Str × Value)).length) I2 S hcl1 hcl2 f2 hob hns₁ hsb
  generalize hY : compCx X scope N cl (s2.heap.objs.size + 1) { s2 with heap := s2.heap.push { cls := .type "list", data := .seq #[] } } H2 (s2.heap.objs.size :: fp) (X.pn ++ pins) = Y at IY
  have yp : Y.prog = X.prog := by rw [← hY]
  have yw : Y.w = X.w := by rw [← hY]
  have yK : Y.K = X.K := by rw [← hY]
  have yA : Y.A = X.A := by rw [← hY]
  have yc : Y.calm = true := by rw [← hY]; exact hc
  have yl : Y.env.locals = s2.heap.objs.size + 1 := by rw [← hY]; rfl
  have yenv : Y.env = compEnvC scope cl (s2.heap.objs.size + 1) X.env := by rw [← hY]
  have yex : Y.ex = s2.heap.objs.size :: fp := by rw [← hY]
  have yfs : Y.fs = frs X.stack := by rw [← hY]
  have ypn : Y.pn = X.pn ++ pins := by rw [← hY]
  have ycl : Y.env.cells = cl := by rw [← hY]; rfl
  have yxe : Y.xe = fun _ _ => False := by rw [← hY]
  have gT : PTg Y k tg tt := by rw [← hY]; exact hg _ _ _ _ _ _
  have gC : PTs Y ifs tc := by rw [← hY]; exact ht _ _ _ _ _ _
  have gE : PE Y elt te := by rw [← hY]; exact he _ _ _ _ _ _
  have yH : Y.H₀ = H2 := by rw [← hY]
  have ys0 : Y.s₀ = { s2 with heap := s2.heap.push { cls := .type "list", data := .seq #[] } } := by rw [← hY]
  have fpLt : ∀ b ∈ fp, b < s2.heap.objs.size := fun b hb => by obtain ⟨o, e⟩ := hob b hb; exact Heap.lt_size e
  have pinLt : ∀ p ∈ X.pn ++ pins, p.1 < s2.heap.objs.size := fun p hp => Heap.lt_size (I2.pin p hp).1
  have cellLt : ∀ x c, X.env.cells.lookup x = some c → c < s2.heap.objs.size := fun x c e => by
    obtain ⟨v, q⟩ := I2.cell x c e
    exact q.lt
  have stkNe : ∀ b, b ≠ X.env.locals → b ∉ X.fs → b ∉ frs X.stack := fun b h1 h2 hb => (List.mem_cons.mp (I2.stkSub b hb)).elim h1 h2
  have fpY : ∀ {H' : Hp} {pl : List (Addr × Obj)}, (∀ b ∈ fp, H' b = none) → (∀ p ∈ pl, p.1 = s2.heap.objs.size) → ∀ b ∈ fp, FpOk Y pl H' b := fun {H' pl} hn hpl b hb => by
    refine ⟨hn b hb, ?_, ?_, .inl ?_, fun x c e => ?_, fun p hp => ?_⟩
    · rw [yl]; exact Nat.ne_of_lt (Nat.lt_succ_of_lt (fpLt b hb))
    · rw [yfs]; exact stkNe b (f2 b hb).2.1 (f2 b hb).2.2.1
    · rw [yex]; exact List.mem_cons_of_mem _ hb
    · rw [ycl] at e; exact (f2 b hb).2.2.2.2.1 x c (hcl1 x c e)
    · rcases List.mem_append.mp hp with hp | hp
      · rw [ypn] at hp; exact (f2 b hb).2.2.2.2.2 p hp
      · rw [hpl p hp]; exact Nat.ne_of_gt (fpLt b hb)
  have loop : ∀ s₃ : Shared, s₃ = { s2 with heap := h₁, toks := s2.toks + ([] : List (Str × Value)).length } →
      codeAny (model X.prog X.w) X.A (.compLoop (.ListComp elt [⟨tg, iter, ifs, 0⟩] scope pos) 0 (.ref it) (.ref s2.heap.objs.size) (compEnvC scope cl (s2.heap.objs.size + 1) X.env)) (RR (.ref s2.heap.objs.size) (s2.heap.objs.size + 1)) s₃ := by
    rintro s₃ rfl
    refine comp_loop (fun n s' => ∃ i ys its H' c, Inv Y [(s2.heap.objs.size, { cls := .type "list", data := .seq (List.toArray its) c })] (List.replicate k none ++ capS σ cap) H' s' ∧ tn i s'.heap ∧ (∀ b ∈ fp, H' b = none) ∧ Vals ys its ∧ W i n ys H') ?_ m0
      ⟨0, [], [], H2, _, IY, T.keep _ _ _ st2 fun b hb o e => hsb b o (Heap.get?_push_of_some _ e), fun b hb => (f2 b hb).1, .nil, w0⟩
    rintro n s3 ⟨i, ys, its, H3, c3, I3, st3, fr3, rv3, w3⟩
    have onlyD : ∀ p ∈ [(s2.heap.objs.size, ({ cls := .type "list", data := .seq its.toArray c3 } : Obj))], p.1 = s2.heap.objs.size := fun p hp => by
      have : p = (s2.heap.objs.size, { cls := .type "list", data := .seq its.toArray c3 }) := by simpa using hp
      rw [this]
    have pinD : ∀ {pl : List (Addr × Obj)} {σ' : St} {H' : Hp} {s' : Shared}, Inv Y ([(s2.heap.objs.size, ({ cls := .type "list", data := .seq its.toArray c3 } : Obj))] ++ pl) σ' H' s' → s'.heap.get? s2.heap.objs.size = some { cls := .type "list", data := .seq its.toArray c3 } ∧ H' s2.heap.objs.size = none := fun I' => by
      obtain ⟨e, n, _⟩ := I'.pin (s2.heap.objs.size, { cls := .type "list", data := .seq its.toArray c3 }) (List.mem_append_right _ (List.mem_append_left _ (by simp)))
      exact ⟨e, n⟩
    rcases turn i n ys H3 w3 with ⟨stop, hz, qn⟩ | ⟨go, Nx, hNx, step⟩
    · have hd := T.done Y yp yw yK yc i _ s3 _ H3 (fun _ _ => False) I3 (fpY fr3 onlyD) st3 stop
      rw [yA] at hd
      refine thn hd fun r s4 hm0 => ?_
      obtain ⟨hr, I4⟩ := hm0
      subst hr
      obtain ⟨eD, nD⟩ := pinD (pl := []) (by simpa using I4)
      have nC : H3 (s2.heap.objs.size + 1) = none := by have := I4.free; rw [yl] at this; exact this
      obtain ⟨mC, nsC, _⟩ := I4.loc
      rw [yl] at nsC
      have U := I4.base
      rw [yfs, yex, yH, ys0] at U
      have old : ∀ {b o}, s2.heap.get? b = some o → b < s2.heap.objs.size := fun e => Heap.lt_size e
      have Un2 : Un (frs X.stack) (s2.heap.objs.size :: fp) H2 (upd H3 s2.heap.objs.size (.lst ys)) s2.heap s4.heap :=
        ⟨fun b o e n hb hx => U.keep b o (Heap.get?_push_of_some _ e) n hb hx, fun b o e n hb hx => U.slot b o (Heap.get?_push_of_some _ e) n hb hx,
          fun b o e n hx => by rw [upd_ne (Nat.ne_of_lt (old e))]; exact U.free b o (Heap.get?_push_of_some _ e) n hx, fun b o e hx => U.there b o (Heap.get?_push_of_some _ e) hx,
          fun b xs e => by have q := U.tups b xs e; rw [upd_ne (ne_of_none q nD)]; exact q, fun b o u e => by have q := U.frzs b o u e; rw [upd_ne (ne_of_none q nD)]; exact q,
          fun b ps e => by obtain ⟨mo, q⟩ := U.tbls b ps e; exact ⟨mo, by rw [upd_ne (ne_of_none q nD)]; exact q⟩⟩
      have hok4 := I4.hok
      rw [yp, yw] at hok4
      have IX : Inv X pins σ (upd H3 s2.heap.objs.size (.lst ys)) s4 := by
        refine I2.call' (ch := s2.heap.objs.size :: fp) ?_ Un2 (hok4.adopt nD ⟨hz, its, c3, rv3, eD⟩) I4.bare fun b hb => ?_
        · have := I4.os; rw [ys0] at this; exact this
        · rcases List.mem_cons.mp hb with rfl | hb
          · exact ⟨.inr I2.sz, Nat.ne_of_gt I2.lt, fun x c e => Nat.ne_of_lt (cellLt x c e), fun p hp => Nat.ne_of_lt (pinLt p hp)⟩
          · exact ⟨(f2 b hb).2.2.2.1, (f2 b hb).2.1, (f2 b hb).2.2.2.2.1, (f2 b hb).2.2.2.2.2⟩
      refine hRR _ _ s4 _ IX ⟨⟨mC, nsC⟩, ?_, ?_, Nat.le_succ_of_le I2.sz, fun x c e => Nat.ne_of_lt (Nat.lt_succ_of_lt (cellLt x c e)), fun p hp => Nat.ne_of_lt (Nat.lt_succ_of_lt (pinLt p hp))⟩ (qn _ nD)
      · rw [upd_ne (Nat.succ_ne_self _)]; exact nC
      · exact Nat.ne_of_gt (Nat.lt_succ_of_lt I2.lt)
    · have hd := T.item Y yp yw yK yc i _ s3 _ H3 (fun _ _ => False) I3 (fpY fr3 onlyD) st3 go
      rw [yA] at hd
      refine thn hd fun r s4 hm0 => ?_
      obtain ⟨u, hr, h4⟩ := hm0
      subst hr
      refine thn h4 fun _ s5 hm0 => ?_
      obtain ⟨x, H5, I5, r5, y5, st5, fr5⟩ := hm0
      have I5' := I5.pinned (fpY fr5 onlyD) (T.obj _ _ st5)
      have a5 := gT _ s5 _ H5 x u _ I5' (by simp) r5 (step x H5 y5)
      rw [yp, yw, yA, yxe, yenv] at a5
      refine thn a5 fun _ s6 hm0 => ?_
      obtain ⟨ws, hlw, q6, I6⟩ := hm0
      have dr : (List.replicate k (none : Option V) ++ capS σ cap).drop k = capS σ cap := by
        rw [List.drop_append_of_le_length (by simp)]; simp
      rw [dr] at I6
      have a6 := gC _ s6 _ H5 _ I6 q6
      rw [yp, yw, yA, yxe, yenv] at a6
      refine thn a6 fun ok s7 hm0 => ?_
      obtain ⟨H7, I7, q7⟩ := hm0
      have wk : ∀ (j : Nat) v, (List.replicate k (none : Option V) ++ capS σ cap)[j]? = some (some v) → (ws.map some ++ capS σ cap)[j]? = some (some v) := fun j v e => by
        have hik : k ≤ j := by
          refine Nat.le_of_not_lt fun hlt => ?_
          rw [List.getElem?_append_left (by simpa using hlt), List.getElem?_replicate] at e
          split at e <;> cases e
        rw [List.getElem?_append_right (by simpa using hik), List.length_replicate] at e
        rw [List.getElem?_append_right (by simpa [hlw] using hik), List.length_map, hlw]
        exact e
      have wl : (List.replicate k (none : Option V) ++ capS σ cap).length = (ws.map some ++ capS σ cap).length := by simp [hlw]
      have stn : ∀ {H' : Hp} {s' : Shared}, Inv Y ([(s2.heap.objs.size, ({ cls := .type "list", data := .seq its.toArray c3 } : Obj))] ++ pinsAt fp s5.heap) (ws.map some ++ capS σ cap) H' s' → tn (i + 1) s'.heap ∧ ∀ b ∈ fp, H' b = none := fun {H' s'} I' => by
        refine ⟨T.keep _ _ _ st5 fun b hb o e => (I'.pin (b, o) (List.mem_append_right _ (List.mem_append_right _ (mem_pinsAt hb e)))).1, fun b hb => ?_⟩
        obtain ⟨o, e, d⟩ := T.obj _ _ st5 b hb
        exact (I'.pin (b, o) (List.mem_append_right _ (List.mem_append_right _ (mem_pinsAt hb e)))).2.1
      cases ok with
      | false =>
        obtain ⟨_, m', hm, w'⟩ := hNx _ _ q7
        obtain ⟨t7, f7⟩ := stn I7
        exact ⟨m', hm, i + 1, ys, its, H7, c3, (I7.weak wl wk).unpinned, t7, f7, rv3, w'⟩
      | true =>
        have a7 := gE _ s7 _ H7 _ I7 q7
        rw [yp, yw, yA, yxe, yenv] at a7
        rw [if_pos rfl]
        refine thn a7 fun yv s8 hm0 => ?_
        obtain ⟨y, H8, I8, r8, q8⟩ := hm0
        obtain ⟨hz8, m', hm, w'⟩ := hNx _ _ q8
        rw [List.length_append, List.length_singleton] at hz8
        obtain ⟨eD, nD⟩ := pinD I8
        obtain ⟨t8, f8⟩ := stn I8
        refine wpAny_list_append_plain (hsz := by rw [List.size_toArray, ← rv3.length]; omega) ⟨c3, eD⟩ fun h9 pl9 sb9 => ?_
        obtain ⟨c9, e9⟩ := pl9
        have I8' : Inv Y [] (List.replicate k none ++ capS σ cap) H8 s8 := (I8.weak wl wk).pins_of fun p hp => by cases hp
        have I9 : Inv Y [] (List.replicate k none ++ capS σ cap) H8 { s8 with heap := h9 } :=
          I8'.turned (t' := s8.toks) (it := s2.heap.objs.size) (fun b o hb e => sb9.extBut b o hb e) nD (by rw [yl]; exact Nat.ne_of_lt (Nat.lt_succ_self _)) (.inl (by rw [yex]; exact List.mem_cons_self)) (fun x c e => by rw [ycl] at e; exact Nat.ne_of_lt (cellLt x c (hcl1 x c e)))
            fun p hp => by
              rw [List.append_nil, ypn] at hp
              exact Nat.ne_of_lt (pinLt p hp)
        have e9' : h9.get? s2.heap.objs.size = some { cls := .type "list", data := .seq (its ++ [yv]).toArray c9 } := by rw [e9]; simp
        refine ⟨m', hm, i + 1, ys ++ [y], its ++ [yv], H8, c9, I9.pins_of fun p hp => ?_, T.keep _ _ _ t8 fun b hb o e => sb9.extBut b o (Nat.ne_of_lt (fpLt b hb)) e, f8, rv3.append (.cons r8 .nil), w'⟩
        have : p = (s2.heap.objs.size, { cls := .type "list", data := .seq (its ++ [yv]).toArray c9 }) := by simpa using hp
        subst this
        refine ⟨e9', nD, ?_, ?_, fun v z => by cases z⟩
        · rw [yl]; exact Nat.ne_of_lt (Nat.lt_succ_self _)
        · rw [yfs]; exact stkNe _ (Nat.ne_of_gt I2.lt) (I2.nofs (Nat.le_refl _))
  exact codeAny_compStart_list (loop _ rfl) (T.self _ 0 _ _ _ (T.keep _ _ _ st2 fun b hb o e => hsb b o (Heap.get?_push_of_some _ e)) (loop _ rfl))
section
variable {X : Cx} {elt tg iter : Expr} {ifs : List Expr} {scope : Scope} {pos : Pos} {N : List Str} {k : Nat} {cap : List Nat} {wi : TI} {tt : TTg} {tc : TT} {te : TE}
theorem pe_comp (hc : X.calm = true) (S : CompOk scope X.env.scope N X.N k cap) (hi : PI X tg iter wi) (hg : ∀ cl C s H ex pn, PTg (compCx X scope N cl C s H ex pn) k tg tt) (ht : ∀ cl C s H ex pn, PTs (compCx X scope N cl C s H ex pn) ifs tc)
    (he : ∀ cl C s H ex pn, PE (compCx X scope N cl C s H ex pn) elt te) (hs : ∀ x, foldedSetIterable iter X.env x = pure x := by intro _; rfl) :
    PE X (.ListComp elt [⟨tg, iter, ifs, 0⟩] scope pos) (tComp wi tt tc te cap) := by
  intro pins s σ H Q I h
  obtain ⟨cl, hclos, hcl1, hcl2⟩ := clos_of (scope := scope) (env := X.env) fun y hy hf => I.ok.has y.1 (S.free y hy hf)
  rw [eval_ListComp]
  refine wpAny_comprehension_free (use := none) rfl hs hclos S.kind S.loc ?_
  refine comp_core hc hi hg ht he S hcl1 hcl2 I h fun D C s1 H' I1 B q => ?_
  obtain ⟨m, hm⟩ := B.ns
  exact ⟨m, hm, fun h' sb => ⟨.ref D, H', B.turn I1 sb, rfl, q⟩⟩
theorem ps_setC {i : Nat} {y : Str} {py spos : Pos} (hc : X.calm = true) (S : CompOk scope X.env.scope N X.N k cap) (hN : X.N.Nodup) (hiy : X.N[i]? = some y) (hy : X.env.scope.names.lookup y = some .local) (hi : PI X tg iter wi)
    (hg : ∀ cl C s H ex pn, PTg (compCx X scope N cl C s H ex pn) k tg tt) (ht : ∀ cl C s H ex pn, PTs (compCx X scope N cl C s H ex pn) ifs tc)
    (he : ∀ cl C s H ex pn, PE (compCx X scope N cl C s H ex pn) elt te)
    (hsw : swapsWith (.ListComp elt [⟨tg, iter, ifs, 0⟩] scope pos) (some (.Name y py)) spos.line X.env = pure true := by rfl) (hs : ∀ x, foldedSetIterable iter X.env x = pure x := by intro _; rfl) :
    PS X (.Assign [.Name y py] (.ListComp elt [⟨tg, iter, ifs, 0⟩] scope pos) spos) (tAsg (tComp wi tt tc te cap) (gName i)) := by
  intro pins s σ H D I h
  obtain ⟨cl, hclos, hcl1, hcl2⟩ := clos_of (scope := scope) (env := X.env) fun y hy hf => I.ok.has y.1 (S.free y hy hf)
  rw [exec_Assign_Name_used _ _ _ _ hsw]
  refine wpAny_bind (wpAny_standAt (wpAny_bind ?_))
  show wpAny _ X.A (do let _ ← comprehension (.ListComp elt [⟨tg, iter, ifs, 0⟩] scope pos) scope X.env _ (newList []) false (eval iter X.env) (some (assign (.Name y py) X.env))) _ _ s
  refine wpAny_bind (wpAny_mono (wpAny_comprehension_free (use := some (assign (.Name y py) X.env)) (Q := fun _ s' => SP X pins D .next s') rfl hs hclos S.kind S.loc ?_) (fun _ s' hq => wpAny_pure (wpAny_pure hq)) fun _ _ e => e)
  refine comp_core hc hi hg ht he S hcl1 hcl2 I h fun Da C s1 H' I1 B q => ?_
  show wpAny _ X.A (assign (.Name y py) X.env (.ref Da)) _ _ _
  refine wpAny_assign_Name (store_ok2 (v := .ref Da) I1 hN hiy (.inl hy) rfl (fun s' I' z => ?_) (.inr hy))
  obtain ⟨a, hsb, ha⟩ := z
  have hCa : C ≠ a := by
    rcases ha with rfl | ha
    · exact B.ne
    · exact fun e => B.cells _ _ ha e.symm
  obtain ⟨m, hm⟩ := B.ns
  refine ⟨m, hm.sameBut hsb hCa, fun h' sb => ?_⟩
  exact ⟨_, H', I'.turned (t' := s'.toks) (fun b o hb e => sb.extBut b o hb e) B.un B.ne (.inr B.new) B.cells B.pins, q⟩
end
end L2
set_option Elab.async false
set_option linter.all false
set_option maxRecDepth 100000
set_option maxHeartbeats 1000000
namespace L2
open PySem PySem.Spec PyProof.Rows
abbrev Rel (α : Type) := Hp → α → V → Prop
def rInt : Rel Int := fun _ i v => v = .int i
def rLst {α : Type} (R : Rel α) : Rel (List α) := fun H xs v => ∃ a vs, v = .ref a ∧ H a = some (.lst vs) ∧ Paired (R H) xs vs
def rT2 {α β : Type} (R : Rel α) (S : Rel β) : Rel (α × β) := fun H p v => ∃ a x y, v = .ref a ∧ H a = some (.tup [x, y]) ∧ R H p.1 x ∧ S H p.2 y
structure MonoR {α : Type} (R : Rel α) : Prop where
  go : ∀ (H H' : Hp) (x : α) (v : V), Same H H' → R H x v → R H' x v
theorem MonoR.up {α : Type} {R : Rel α} (m : MonoR R) {H H' : Hp} {x : α} {v : V} (s : Same H H') (h : R H x v) : R H' x v := m.go H H' x v s h
theorem mono_int : MonoR rInt := ⟨fun _ _ _ _ _ h => h⟩
theorem paired_mono {α : Type} {R : Rel α} (m : MonoR R) {H H' : Hp} (s : Same H H') {xs : List α} {vs : List V} (p : Paired (R H) xs vs) : Paired (R H') xs vs := Paired.mapP p fun _ _ q => m.up s q
theorem mono_lst {α : Type} {R : Rel α} (m : MonoR R) : MonoR (rLst R) := ⟨fun H H' x v s h => by
  obtain ⟨a, vs, e, h1, p⟩ := h
  exact ⟨a, vs, e, s _ _ h1, paired_mono m s p⟩⟩
theorem mono_t2 {α β : Type} {R : Rel α} {S : Rel β} (m : MonoR R) (n : MonoR S) : MonoR (rT2 R S) := ⟨fun H H' x v s h => by
  obtain ⟨a, x, y, e, h1, p, q⟩ := h
  exact ⟨a, x, y, e, s _ _ h1, m.up s p, n.up s q⟩⟩
theorem paired_map {α β : Type} {F : α → β → Prop} {f : α → β} (h : ∀ a, F a (f a)) : ∀ xs : List α, Paired F xs (xs.map f)
  | [] => .nil
  | a :: r => .cons (h a) (paired_map h r)
theorem paired_ints {H : Hp} : ∀ {xs : List Int} {vs : List V}, Paired (rInt H) xs vs → vs = xs.map V.int
  | _, _, .nil => rfl
  | _, _, .cons h t => by rw [List.map_cons, ← paired_ints t]; exact congrArg (· :: _) h
theorem ints_paired {H : Hp} (xs : List Int) : Paired (rInt H) xs (xs.map V.int) := paired_map (F := rInt H) (f := V.int) (fun _ => rfl) xs
theorem rLst_ints {H : Hp} {xs : List Int} {v : V} : rLst rInt H xs v ↔ ∃ a, v = .ref a ∧ H a = some (.lst (xs.map V.int)) := by
  constructor
  · rintro ⟨a, vs, rfl, h, p⟩
    rw [paired_ints p] at h
    exact ⟨a, rfl, h⟩
  · rintro ⟨a, rfl, h⟩
    exact ⟨a, _, rfl, h, ints_paired xs⟩
theorem Paired.at {α β : Type} {F : α → β → Prop} : ∀ {xs : List α} {ys : List β} {i : Nat} {x : α}, Paired F xs ys → xs[i]? = some x → ∃ y, ys[i]? = some y ∧ F x y
  | _, _, _, _, .nil, e => by simp at e
  | _, _, 0, _, .cons r _, e => by simp at e; subst e; exact ⟨_, rfl, r⟩
  | _, _, i + 1, x, .cons _ t, e => by
    obtain ⟨u, h1, h2⟩ := Paired.at (i := i) (x := x) t (by simpa using e)
    exact ⟨u, by simpa using h1, h2⟩
theorem Paired.app {α β : Type} {F : α → β → Prop} : ∀ {xs xs' : List α} {ys ys' : List β}, Paired F xs ys → Paired F xs' ys' → Paired F (xs ++ xs') (ys ++ ys')
  | _, _, _, _, .nil, s => s
  | _, _, _, _, .cons r t, s => .cons r (Paired.app t s)
structure EqOk {α : Type} (n : Nat) (R : Rel α) : Prop where
  go : ∀ (X : Cx) (pins : List (Addr × Obj)) (σ : St) (H : Hp) (s : Shared) (A : Around) (x : α) (v w : V) (u1 u2 : Value),
    Inv X pins σ H s → A.units + n < cLine → R H x v → R H x w → RelV v u1 → RelV w u2 → SeqAt.EqAt A s u1 u2 true
theorem EqOk.at {α : Type} {n : Nat} {R : Rel α} (h : EqOk n R) {X : Cx} {pins : List (Addr × Obj)} {σ : St} {H : Hp} {s : Shared} {A : Around} {x : α} {v w : V} {u1 u2 : Value} (I : Inv X pins σ H s) (hu : A.units + n < cLine) (h1 : R H x v) (h2 : R H x w) (r1 : RelV v u1) (r2 : RelV w u2) : SeqAt.EqAt A s u1 u2 true :=
  h.go X pins σ H s A x v w u1 u2 I hu h1 h2 r1 r2
structure RcOk {α : Type} (n : Nat) (R : Rel α) : Prop where
  go : ∀ (X : Cx) (pins : List (Addr × Obj)) (σ : St) (H : Hp) (s : Shared) (A : Around) (x : α) (v w : V) (u1 u2 : Value),
    Inv X pins σ H s → A.units + n < cLine → R H x v → R H x w → RelV v u1 → RelV w u2 → SeqAt.RcAt A s u1 u2 true ∧ SeqAt.RcNeAt A s u1 u2 false
theorem RcOk.at {α : Type} {n : Nat} {R : Rel α} (h : RcOk n R) {X : Cx} {pins : List (Addr × Obj)} {σ : St} {H : Hp} {s : Shared} {A : Around} {x : α} {v w : V} {u1 u2 : Value} (I : Inv X pins σ H s) (hu : A.units + n < cLine) (h1 : R H x v) (h2 : R H x w) (r1 : RelV v u1) (r2 : RelV w u2) : SeqAt.RcAt A s u1 u2 true ∧ SeqAt.RcNeAt A s u1 u2 false :=
  h.go X pins σ H s A x v w u1 u2 I hu h1 h2 r1 r2
theorem EqOk.up {α : Type} {m n : Nat} {R : Rel α} (h : EqOk m R) (hm : m ≤ n) : EqOk n R := ⟨fun X pins σ H s A x v w u1 u2 I hu => h.go X pins σ H s A x v w u1 u2 I (by omega)⟩
theorem eqok_int : EqOk 0 rInt := by
  refine ⟨fun X pins σ H s A x v w u1 u2 I hu h1 h2 r1 r2 => ?_⟩
  have e1 : v = .int x := h1
  have e2 : w = .int x := h2
  subst e1; subst e2
  have := eqAt_V (A := A) (s := s) r1 r2 rfl rfl
  simpa [eqV] using this
theorem all_true (n : Nat) : (List.range n).all (fun _ => true) = true := by simp
theorem vals_two {α : Type} {R : Rel α} {H : Hp} {xs : List α} {vs ws : List V} {us1 us2 : List Value} (p1 : Paired (R H) xs vs) (p2 : Paired (R H) xs ws) (r1 : Vals vs us1) (r2 : Vals ws us2) :
    us1.length = us2.length ∧ ∀ (j : Nat) (a b : Value), us1[j]? = some a → us2[j]? = some b → ∃ x v w, R H x v ∧ R H x w ∧ RelV v a ∧ RelV w b := by
  induction p1 generalizing ws us1 us2 with
  | nil =>
    cases p2
    cases r1; cases r2
    exact ⟨rfl, fun j a b e => by simp at e⟩
  | cons h t ih =>
    cases p2 with
    | cons h' t' =>
      cases r1 with
      | cons q1 s1 =>
        cases r2 with
        | cons q2 s2 =>
          obtain ⟨e, f⟩ := ih t' s1 s2
          refine ⟨by simp [e], fun j a b ea eb => ?_⟩
          cases j with
          | zero => simp at ea eb; subst ea; subst eb; exact ⟨_, _, _, h, h', q1, q2⟩
          | succ j => exact f j a b (by simpa using ea) (by simpa using eb)
theorem rcok_lst {α : Type} {n : Nat} {R : Rel α} (h : EqOk n R) : RcOk (n + 1) (rLst R) := by
  refine ⟨fun X pins σ H s A xs v w u1 u2 I hu h1 h2 r1 r2 => ?_⟩
  obtain ⟨a, vs, e1, ha, p1⟩ := h1
  obtain ⟨b, ws, e2, hb, p2⟩ := h2
  subst e1; subst e2
  cases r1; cases r2
  obtain ⟨its, n1, rv1, o1, z1⟩ := I.lst ha
  obtain ⟨its2, n2, rv2, o2, z2⟩ := I.lst hb
  obtain ⟨el, f⟩ := vals_two p1 p2 rv1 rv2
  have hl1 : s.heap.IsList a its.toArray := ⟨_, o1, rfl, n1, rfl⟩
  have hl2 : s.heap.IsList b its2.toArray := ⟨_, o2, rfl, n2, rfl⟩
  have he : ∀ j (h1 : j < its.toArray.size) (h2 : j < its2.toArray.size), SeqAt.EqAt A.in1 s its.toArray[j] its2.toArray[j] ((fun _ => true) j) := fun j h1 h2 => by
    obtain ⟨x, v, w, q1, q2, q3, q4⟩ := f j (its.toArray[j]) (its2.toArray[j]) (by simp) (by simp)
    exact h.at I (by show A.units + 1 + n < cLine; omega) q1 q2 q3 q4
  have A1 := SeqAt.RcAt.lists hl1 hl2 (by simpa using el) (by omega) he
  have A2 := SeqAt.RcNeAt.lists hl1 hl2 (by simpa using el) (by omega) he
  rw [all_true] at A1 A2
  exact ⟨A1, A2⟩
theorem eqok_of {α : Type} {n : Nat} {R : Rel α} (h : RcOk n R) (href : ∀ {H : Hp} {x : α} {v : V}, R H x v → ∃ a, v = .ref a) : EqOk n R := by
  refine ⟨fun X pins σ H s A x v w u1 u2 I hu h1 h2 r1 r2 => ?_⟩
  obtain ⟨a, rfl⟩ := href h1
  obtain ⟨b, rfl⟩ := href h2
  have q := (h.at I hu h1 h2 r1 r2).1
  cases r1; cases r2
  by_cases e : a = b
  · subst e; exact SeqAt.EqAt.same _
  · exact SeqAt.EqAt.of_refs e q
theorem eqok_lst {α : Type} {n : Nat} {R : Rel α} (h : EqOk n R) : EqOk (n + 1) (rLst R) := eqok_of (rcok_lst h) fun z => by obtain ⟨a, _, e, _⟩ := z; exact ⟨a, e⟩
theorem rcok_t2 {α β : Type} {n : Nat} {R : Rel α} {S : Rel β} (h : EqOk n R) (g : EqOk n S) : RcOk (n + 1) (rT2 R S) := by
  refine ⟨fun X pins σ H s A xs v w u1 u2 I hu h1 h2 r1 r2 => ?_⟩
  obtain ⟨a, x1, y1, e1, ha, p1, q1⟩ := h1
  obtain ⟨b, x2, y2, e2, hb, p2, q2⟩ := h2
  subst e1; subst e2
  cases r1; cases r2
  obtain ⟨z1, its, rv1, t1⟩ := I.hok a _ ha
  obtain ⟨z2, its2, rv2, t2⟩ := I.hok b _ hb
  obtain ⟨c1, c2, rfl, rc1, rc2⟩ := rv1.two
  obtain ⟨d1, d2, rfl, rd1, rd2⟩ := rv2.two
  have he : ∀ j (h1 : j < [c1, c2].toArray.size) (h2 : j < [d1, d2].toArray.size), SeqAt.EqAt A.in1 s [c1, c2].toArray[j] [d1, d2].toArray[j] ((fun _ => true) j) := fun j h1 h2 => by
    have hj : j = 0 ∨ j = 1 := by have : j < 2 := h1; (clear hu z1 z2 h1 h2; omega)
    rcases hj with rfl | rfl
    · exact h.at I (by show A.units + 1 + n < cLine; omega) p1 p2 rc1 rd1
    · exact g.at I (by show A.units + 1 + n < cLine; omega) q1 q2 rc2 rd2
  have A1 := SeqAt.RcAt.tuples t1 t2 (by omega) he
  have A2 := SeqAt.RcNeAt.tuples t1 t2 (by omega) he
  simpa [all_true] using And.intro A1 A2
theorem eqok_t2 {α β : Type} {n : Nat} {R : Rel α} {S : Rel β} (h : EqOk n R) (g : EqOk n S) : EqOk (n + 1) (rT2 R S) := eqok_of (rcok_t2 h g) fun z => by obtain ⟨a, _, _, e, _⟩ := z; exact ⟨a, e⟩
section
variable {X : Cx}
theorem op_eqR {α : Type} {n : Nat} {R : Rel α} (ok : RcOk n R) (hu : X.A.units + n < cLine) : OpR X (compareOp .Eq) (fun v w H Q => ∃ x, R H x v ∧ R H x w ∧ Q (.bl true) H) := by
  intro pins s σ H v w u1 u2 Q I r1 r2 h
  obtain ⟨x, h1, h2, q⟩ := h
  exact (ok.at I hu h1 h2 r1 r2).1 _ _ _ _ ⟨.bl true, H, I, rfl, q⟩
theorem op_neR {α : Type} {n : Nat} {R : Rel α} (ok : RcOk n R) (hu : X.A.units + n < cLine) : OpR X (compareOp .NotEq) (fun v w H Q => ∃ x, R H x v ∧ R H x w ∧ Q (.bl false) H) := by
  intro pins s σ H v w u1 u2 Q I r1 r2 h
  obtain ⟨x, h1, h2, q⟩ := h
  exact (ok.at I hu h1 h2 r1 r2).2 _ _ _ _ ⟨.bl false, H, I, rfl, q⟩
def kindV (H : Hp) : V → String → Prop
  | .non, T => T = "NoneType"
  | .bl _, T => T = "bool"
  | .int _, T => T = "int"
  | .str _, T => T = "str"
  | .ref a, T => (T = "list" ∧ ((∃ xs, H a = some (.lst xs)) ∨ ∃ o xs, H a = some (.frz o (.lst xs)))) ∨ (T = "tuple" ∧ ∃ xs, H a = some (.tup xs)) ∨ (T = "dict" ∧ ∃ kvs, H a = some (.dK kvs))
  | _, _ => False
theorem kindV.ty {K : PySem.W.Frag} {H : Hp} {x : V} {T : String} (h : kindV H x T) : TyOf K H x (.type T) := by
  cases x with
  | non => cases (show T = "NoneType" from h); exact .non
  | bl b => cases (show T = "bool" from h); exact .bl b
  | int i => cases (show T = "int" from h); exact .int i
  | str z => cases (show T = "str" from h); exact .str z
  | ref a =>
    rcases h with ⟨rfl, ⟨xs, e⟩ | ⟨o, xs, e⟩⟩ | ⟨rfl, xs, e⟩ | ⟨rfl, kvs, e⟩
    · exact .lst e
    · exact .frz e
    · exact .tup e
    · exact .dK e
  | _ => exact False.elim h
theorem call_isi {T : String} : CallR X (.builtin "isinstance") (fun xs H Q => ∃ x S b, xs = [x, .ty T] ∧ kindV H x S ∧ PySem.W.kitOne X.K (.type S) (.type T) = some b ∧ Q (.bl b) H) := by
  intro pins s σ H xs us Q I r h
  obtain ⟨x, S, b, rfl, hk, e, q⟩ := h
  obtain ⟨u, c, rfl, ru, rc⟩ := r.two
  cases (show c = Value.type T from rc)
  exact isinst_ok I ru hk.ty e fun tk => ⟨.bl b, H, I.tok _, rfl, q⟩
theorem isi_same {K : PySem.W.Frag} (T : String) : PySem.W.kitOne K (.type T) (.type T) = some true := by
  unfold PySem.W.kitOne
  rw [if_pos (by simp)]
theorem isi_int_bool {K : PySem.W.Frag} : PySem.W.kitOne K (.type "int") (.type "bool") = some false := rfl
end
end L2
set_option Elab.async false
set_option linter.all false
set_option maxRecDepth 100000
set_option maxHeartbeats 1000000
namespace L2
open PySem PySem.Spec PyProof.Rows
def compOkB (scope psc : Scope) (N PN : List Str) (k : Nat) (cap : List Nat) : Bool :=
  (scope.kind == .function) && (N.length == k + cap.length) &&
  (scope.names.all fun y => (y.2 != .cell) && (y.2 != .local || scope.names.lookup y.1 == some .local) &&
    (y.2 != .free || (scope.names.lookup y.1 == some .free && (psc.names.lookup y.1 == some .cell || psc.names.lookup y.1 == some .free)))) &&
  ((List.range cap.length).all fun j => match N[k + j]?, cap[j]? with
    | some x, some i => PN[i]? == some x && scope.names.lookup x == some .free
    | _, _ => false)
theorem compOk_of {scope psc : Scope} {N PN : List Str} {k : Nat} {cap : List Nat} (h : compOkB scope psc N PN k cap = true) : CompOk scope psc N PN k cap := by
  unfold compOkB at h
  simp only [Bool.and_eq_true] at h
  obtain ⟨⟨⟨h1, h2⟩, h3⟩, h4⟩ := h
  rw [List.all_eq_true] at h3 h4
  have q : ∀ y ∈ scope.names, y.2 ≠ .cell ∧ (y.2 = .local → scope.names.lookup y.1 = some .local) ∧ (y.2 = .free → scope.names.lookup y.1 = some .free ∧ (psc.names.lookup y.1 = some .cell ∨ psc.names.lookup y.1 = some .free)) := fun y hy => by
    have := h3 y hy
    simp only [Bool.and_eq_true, Bool.or_eq_true, bne_iff_ne, beq_iff_eq] at this
    obtain ⟨⟨a, b⟩, c⟩ := this
    exact ⟨a, fun e => b.elim (fun z => absurd e z) id, fun e => c.elim (fun z => absurd e z) id⟩
  refine ⟨by simpa using h1, by simpa using h2, fun y hy => (q y hy).1, fun y hy => (q y hy).2.1, fun y hy e => ((q y hy).2.2 e).2, fun j hj => ?_, fun y hy e => ((q y hy).2.2 e).1⟩
  have := h4 j hj
  split at this
  · rename_i x i e1 e2
    simp only [Bool.and_eq_true, beq_iff_eq] at this
    exact ⟨x, i, e1, e2, this.1, this.2⟩
  · cases this
section
variable {X : Cx} {elt tg iter : Expr} {ifs : List Expr} {scope : Scope} {pos : Pos} {wi : TI} {tt : TTg} {tc : TT} {te : TE}
theorem pe_lc (psc : Scope) (PN N : List Str) (k : Nat) (cap : List Nat) (hi : PI X tg iter wi) (hg : ∀ cl C s H ex pn, PTg (compCx X scope N cl C s H ex pn) k tg tt) (ht : ∀ cl C s H ex pn, PTs (compCx X scope N cl C s H ex pn) ifs tc)
    (he : ∀ cl C s H ex pn, PE (compCx X scope N cl C s H ex pn) elt te) (hc : X.calm = true := by rfl) (h1 : X.env.scope = psc := by rfl) (h2 : X.N = PN := by rfl) (S : compOkB scope psc N PN k cap = true := by decide +kernel)
    (hs : ∀ x, foldedSetIterable iter X.env x = pure x := by intro _; rfl) :
    PE X (.ListComp elt [⟨tg, iter, ifs, 0⟩] scope pos) (tComp wi tt tc te cap) := pe_comp hc (by rw [h1, h2]; exact compOk_of S) hi hg ht he hs
theorem ps_lc {i : Nat} {y : Str} {py spos : Pos} (psc : Scope) (PN N : List Str) (k : Nat) (cap : List Nat) (hN : X.N.Nodup) (hiy : X.N[i]? = some y) (hy : X.env.scope.names.lookup y = some .local) (hi : PI X tg iter wi)
    (hg : ∀ cl C s H ex pn, PTg (compCx X scope N cl C s H ex pn) k tg tt) (ht : ∀ cl C s H ex pn, PTs (compCx X scope N cl C s H ex pn) ifs tc)
    (he : ∀ cl C s H ex pn, PE (compCx X scope N cl C s H ex pn) elt te) (hc : X.calm = true := by rfl) (h1 : X.env.scope = psc := by rfl) (h2 : X.N = PN := by rfl) (S : compOkB scope psc N PN k cap = true := by decide +kernel)
    (hsw : swapsWith (.ListComp elt [⟨tg, iter, ifs, 0⟩] scope pos) (some (.Name y py)) spos.line X.env = pure true := by rfl) (hs : ∀ x, foldedSetIterable iter X.env x = pure x := by intro _; rfl) :
    PS X (.Assign [.Name y py] (.ListComp elt [⟨tg, iter, ifs, 0⟩] scope pos) spos) (tAsg (tComp wi tt tc te cap) (gName i)) := ps_setC hc (by rw [h1, h2]; exact compOk_of S) hN hiy hy hi hg ht he hsw hs
end
structure Dn (P : Program) (w : World) (K : PySem.W.Frag) (mg : Str → Option Value) (base : Heap) (x : Str) (n : Nat) (ps : List Str) (sp : Sp) : Prop where
  ex : ∃ f fd, FnOk P w K mg base CX0 n f fd ps sp ∧ mg x = some (.ref f) ∧ PySem.W.keepIn K (.ref f) = true ∧ Binds K fd ps []
structure DefAt (K : PySem.W.Frag) (mg : Str → Option Value) (x : Str) (st : Stmt) (ps : List Str) : Prop where
  ex : ∃ f fd, Fun K x x st f fd ∧ mg x = some (.ref f) ∧ Binds K fd ps []
section
variable {P : Program} {w : World} {K : PySem.W.Frag} {mg : Str → Option Value} {base : Heap}
theorem DefAt.ok {x : Str} {st : Stmt} {N ps : List Str} {k : Nat} {sp : Sp} (F : DefAt K mg x st ps) (S : FnScope N ps (defScope st)) (len : ∀ vs H Q E, sp vs H Q E → vs.length = ps.length)
    (hbody : ∀ (f : Addr) (cdv : Value) (A : Around) (outer : List Env) (s : Shared) (H : Hp) (vs : List V) (Q : VK) (E : XK), Room k (A.deeper (envOfC x (defScope st) s.heap.objs.size f cdv)) → sp vs H Q E →
      ∃ t, PSs (cxOf CX0 P w K mg base N x (defScope st) f cdv A outer s H E).nox (defBody st) t ∧ t { nx := fun _ H' => Q .non H', rt := Q } (start N vs) H) : Dn P w K mg base x (k + 1) ps sp := by
  obtain ⟨f, fd, F, hm, hb⟩ := F.ex
  exact ⟨f, fd, F.ok S len fun cdv A outer s H vs Q E => hbody f cdv A outer s H vs Q E, hm, F.kp, hb⟩
end
theorem pe_dn {X : Cx} {x : Str} {n k : Nat} {ps : List Str} {sp : Sp} {e : Expr} {es : List Expr} {t : TA} {p pos : Pos} (D : Dn X.prog X.w X.K X.mg X.base x n ps sp) (hr : Room k X.A) (ha : PA X (e :: es) t) (hk : n ≤ k := by decide) (hg : Gl X x := by rfl)
    (hdb : (x == ("__debug__" : Str)) = false := by decide) (he : starEach (e :: es) X.env = (false, eval e X.env) :: starEach es X.env := by rfl) (hpl : (backTo pos (starEach es X.env)).any (·.1) = false := by rfl) :
    PE X (.Call (.Name x p) (e :: es) [] pos) (tCall sp [] E0 t) := by
  obtain ⟨f, fd, F, hm, kp, hb⟩ := D.ex
  exact pe_call F (hr.mono hk) hg hm kp hb .nil pass0 ha hdb he hpl
theorem hu_n {A : Around} {k : Nat} (hr : Room k A) (n : Nat) (h : n ≤ 64 := by decide) : A.units + n < cLine := Nat.lt_of_le_of_lt (Nat.add_le_add_left h _) hr.units
def tSeqM (t u : TS) : TS := fun D σ H => ∃ M : St → Hp → Prop, t { D with nx := M } σ H ∧ ∀ σ' H', M σ' H' → u D σ' H'
theorem pss_cut {X : Cx} {st : Stmt} {rest : List Stmt} {t u : TS} (h1 : PS X st t) (h2 : PSs X rest u) : PSs X (st :: rest) (tSeqM t u) := by
  intro pins s σ H D I h
  obtain ⟨M, h, k⟩ := h
  refine wpAny_execs_cons (thn (h1 pins s σ H { D with nx := M } I h) fun f s1 q => ?_)
  cases f with
  | next =>
    obtain ⟨σ', H', I', q⟩ := q
    exact h2 pins s1 σ' H' D I' (k σ' H' q)
  | ret v => exact q
  | brk => exact q
  | cont => exact q
def newp (H H' : Hp) : Hp := fun b => match H b with
  | none => H' b
  | some _ => none
theorem newp_same (H H' : Hp) : Same (newp H H') H' := fun b o e => by
  unfold newp at e
  cases q : H b with
  | none => rw [q] at e; exact e
  | some u => rw [q] at e; cases e
theorem newp_none {H H' : Hp} {b : Addr} {o : HO} (h : H b = some o) : newp H H' b = none := by unfold newp; rw [h]
theorem newp_at {H H' : Hp} {b : Addr} (h : H b = none) : newp H H' b = H' b := by unfold newp; rw [h]
theorem newp_mono {H H1 H' H2 : Hp} (a : Same H H1) (b : Same H' H2) : Same (newp H1 H') (newp H H2) := fun c o e => by
  cases q : H1 c with
  | some u => rw [newp_none q] at e; cases e
  | none =>
    rw [newp_at q] at e
    rw [newp_at (a.free q)]
    exact b c o e
theorem same_upd {H : Hp} {p : Addr} (h : H p = none) (o : HO) : Same H (upd H p o) := fun b u q => by rw [upd_ne (ne_of_none q h)]; exact q
theorem Same.put {Hs H : Hp} {p : Addr} (s : Same Hs H) (h : Hs p = none) (o : HO) : Same Hs (upd H p o) := fun b u q => by
  rw [upd_ne (ne_of_none q h)]; exact s b u q
theorem small {n m : Nat} (h : n ≤ m) (hm : m ≤ 1000000 := by decide) : n ≤ sizeLine := Nat.le_trans h (Nat.le_trans hm (by decide))
theorem atI_ints {ns : List Int} {k : Int} (h0 : 0 ≤ k) (h1 : k < ns.length) : atI (ns.map V.int) k = some (.int (ns.getD k.toNat 0)) := by
  have hk : k.toNat < ns.length := by omega
  have ek : k = ((k.toNat : Nat) : Int) := by omega
  rw [ek]
  refine (atI_nat (v := V.int (ns.getD k.toNat 0)) ?_)
  simp [hk]
theorem comp_yes {x : V} {H : Hp} {f : List V → St} {A B : List V → Hp → Prop} (h : A [x] H) : ttName x H fun ws => tYes (f ws) H fun b H4 => if b = true then A ws H4 else B ws H4 := by
  show if true = true then A [x] H else B [x] H
  rw [if_pos rfl]; exact h
end L2
set_option Elab.async false
set_option linter.all false
set_option maxRecDepth 100000
set_option maxHeartbeats 1000000
namespace L2
open PySem PySem.Spec PyProof.Rows
section
variable {prog : Program} {w : World} {A : Around} {E : Value → Shared → Prop} {s : Shared} {T : String} {r d : Addr} {n : Nat} {P : Nat → Value → Prop} {OK : Heap → Prop} {Q : Value → Shared → Prop}
end
section
variable {X : Cx}
end
end L2
set_option Elab.async false
set_option linter.all false
set_option maxRecDepth 100000
set_option maxHeartbeats 1000000
namespace L2
open PySem PySem.Spec PyProof.Rows
end L2
set_option Elab.async false
set_option linter.all false
set_option maxRecDepth 100000
set_option maxHeartbeats 2000000
namespace L2
open PySem PySem.Spec PyProof.Rows
section
variable {P : Program} {w : World} {A : Around} {E : Value → Shared → Prop}
end
end L2
set_option Elab.async false
set_option linter.all false
set_option maxRecDepth 100000
set_option maxHeartbeats 4000000
namespace PySem
section
variable {prog : Program} {w : World} {A : Around} {E : Value → Shared → Prop} {s : Shared}
end
end PySem
namespace L2
open PySem PySem.Spec PyProof.Rows
section
variable {P : Program} {w : World} {A : Around} {R : Result → Shared → Prop} {I : Addr} {fp wr : List Addr} {G : Array GenState → Array GenState → Prop} {n : Nat} {Pv : Nat → Value → Prop} {St : Nat → Shared → Prop}
end
end L2
namespace PySem
open L2
section
variable {prog : Program} {w : World} {A : Around} {E : Value → Shared → Prop} {s : Shared}
end
end PySem
set_option Elab.async false
set_option linter.all false
set_option maxRecDepth 100000
set_option maxHeartbeats 4000000
namespace PySem.F
end PySem.F
namespace L2
open PySem PySem.Spec PyProof.Rows
section
variable {P : Program} {w : World} {A : Around} {E : Value → Shared → Prop} {s : Shared}
end
end L2
set_option Elab.async false
set_option linter.all false
set_option maxRecDepth 100000
set_option maxHeartbeats 4000000
namespace L2
open PySem PySem.Spec PyProof.Rows
section
variable {P : Program} {w : World} {A : Around} {E : Value → Shared → Prop} {s : Shared}
end
end L2
set_option Elab.async false
set_option linter.all false
set_option maxRecDepth 100000
set_option maxHeartbeats 4000000
namespace L2
open PySem PySem.Spec PyProof.Rows
section
variable {P : Program} {w : World} {A : Around} {E : Value → Shared → Prop} {s : Shared}
end
end L2
set_option Elab.async false
set_option linter.all false
set_option maxRecDepth 100000
set_option maxHeartbeats 4000000
namespace L2
open PySem PySem.Spec PyProof.Rows
section
variable {P : Program} {w : World} {A : Around} {E : Value → Shared → Prop} {s : Shared}
end
end L2
set_option Elab.async false
set_option linter.all false
set_option maxRecDepth 100000
set_option maxHeartbeats 1000000
namespace L2
open PySem PySem.Spec PyProof.Rows
theorem cut_from (ns : List Int) (k : Nat) (h : k ≤ ns.length) : cutV (ns.map V.int) (some (k : Int)) none = (ns.drop k).map V.int := by
  unfold cutV
  rw [HT.sIx_nat, HT.sIx_none, List.length_map, Nat.min_eq_left h, ← List.map_drop, List.take_of_length_le (by simp)]
theorem cut_upto (ns : List Int) (k : Nat) (h : k ≤ ns.length) : cutV (ns.map V.int) none (some (k : Int)) = (ns.take k).map V.int := by
  unfold cutV
  rw [HT.sIx_nat, HT.sIx_none, List.length_map, Nat.min_eq_left h, List.drop_zero, Nat.sub_zero, ← List.map_take]
theorem int_of_at {ns : List Int} {i : Nat} {x : V} (h : (ns.map V.int)[i]? = some x) : ∃ z, ns[i]? = some z ∧ x = .int z := by
  rw [List.getElem?_map] at h
  cases e : ns[i]? with
  | none => rw [e] at h; cases h
  | some z => rw [e] at h; exact ⟨z, rfl, (Option.some.inj h).symm⟩
theorem smlt {n m : Nat} (h : n ≤ m) (hm : m + 1 ≤ 1000000 := by decide) : n < sizeLine := small (n := n + 1) (m := m + 1) (Nat.succ_le_succ h) hm
def del (H : Hp) (g : Addr) : Hp := fun b => if b = g then none else H b
theorem del_at {H : Hp} {g b : Addr} (h : b ≠ g) : del H g b = H b := if_neg h
theorem del_upd {H : Hp} {g : Addr} {o : HO} : del (upd H g o) g = del H g := by
  funext b
  by_cases e : b = g
  · unfold del; rw [if_pos e, if_pos e]
  · rw [del_at e, del_at e, upd_ne e]
theorem del_same (H : Hp) (g : Addr) : Same (del H g) H := fun b o e => by
  by_cases q : b = g
  · unfold del at e; rw [if_pos q] at e; cases e
  · rw [del_at q] at e; exact e
theorem del_mono {H H' : Hp} (s : Same H H') (g : Addr) : Same (del H g) (del H' g) := fun b o e => by
  by_cases q : b = g
  · unfold del at e; rw [if_pos q] at e; cases e
  · rw [del_at q] at e; rw [del_at q]; exact s b o e
def home (H H2 : Hp) (g : Addr) : Hp := newp H (del H2 g)
structure Bld {α : Type} (R : Rel α) (H H2 : Hp) (g : Addr) (xs : List α) : Prop where
  g0 : H g = none
  s : Same H H2
  ex : ∃ vs, H2 g = some (.lst vs) ∧ Paired (R (home H H2 g)) xs vs
section
variable {α : Type} {R : Rel α} {H H1 H2 H3 : Hp} {g : Addr} {xs : List α}
theorem Bld.start (s : Same H H1) (h : H1 g = none) : Bld R H (upd H1 g (.lst [])) g [] := ⟨s.free h, s.trans (same_upd h _), [], upd_same, .nil⟩
theorem Bld.go (m : MonoR R) (b : Bld R H H2 g xs) (s : Same H2 H3) : Bld R H H3 g xs := by
  obtain ⟨g0, s0, vs, h, p⟩ := b
  exact ⟨g0, s0.trans s, vs, s _ _ h, paired_mono m (newp_mono (Same.refl _) (del_mono s g)) p⟩
theorem Bld.push (m : MonoR R) (b : Bld R H H2 g xs) (s : Same H2 H3) {x : α} {v : V} (r : R (newp H2 H3) x v) : ∃ vs, H3 g = some (.lst vs) ∧ vs.length = xs.length ∧ Bld R H (upd H3 g (.lst (vs ++ [v]))) g (xs ++ [x]) := by
  have b3 := b.go m s
  obtain ⟨g0, s0, vs, h, p⟩ := b3
  refine ⟨vs, h, p.length.symm, g0, s0.put g0 _, vs ++ [v], upd_same, ?_⟩
  have e : home H (upd H3 g (.lst (vs ++ [v]))) g = home H H3 g := by unfold home; rw [del_upd]
  rw [e]
  refine Paired.app p (.cons (m.up (fun c o q => ?_) r) .nil)
  have hc2 : H2 c = none := by
    cases z : H2 c with
    | none => rfl
    | some u => rw [newp_none z] at q; cases q
  rw [newp_at hc2] at q
  have hcg : c ≠ g := fun z => by subst z; rw [b.ex.choose_spec.1] at hc2; cases hc2
  unfold home
  rw [newp_at (b.s.free hc2), del_at hcg]; exact q
theorem Bld.done (m : MonoR R) (b : Bld R H H2 g xs) : rLst R (newp H H2) xs (.ref g) := by
  obtain ⟨g0, s0, vs, h, p⟩ := b
  exact ⟨g, vs, rfl, by rw [newp_at g0]; exact h, paired_mono m (newp_mono (Same.refl _) (del_same _ _)) p⟩
theorem Bld.sq (b : Bld R H H2 g xs) : ∃ vs, H2 g = some (.lst vs) ∧ vs.length = xs.length := by
  obtain ⟨vs, h, p⟩ := b.ex
  exact ⟨vs, h, p.length.symm⟩
end
section
variable {X : Cx} {K : PySem.W.Frag} (hK : X.K = K)
include hK
theorem ixL : IxR X (rIxL K) := by subst hK; exact ix_list
theorem ixT : IxR X (rIxT K) := by subst hK; exact ix_tup
theorem slL : SlR X (rSlL K) := by subst hK; exact sl_list
theorem inS : OpR X (compareOp .In) (rIn K false) := by subst hK; exact op_in_seq
theorem clLen : CallR X (.builtin "len") (fun xs H Q => ∃ p ys, xs = [.ref p] ∧ (SqL K H p ys ∨ SqT K H p ys) ∧ Q (.int ys.length) H) := by subst hK; exact call_len_seq
theorem clList : CallR X (.type "list") (fun xs H Q => ∃ p ys, xs = [.ref p] ∧ (SqL K H p ys ∨ SqT K H p ys) ∧ ∀ l, H l = none → Q (.ref l) (upd H l (.lst ys))) := by subst hK; exact call_list_of
theorem clIsi {T : String} : CallR X (.builtin "isinstance") (fun xs H Q => ∃ x S b, xs = [x, .ty T] ∧ kindV H x S ∧ PySem.W.kitOne K (.type S) (.type T) = some b ∧ Q (.bl b) H) := by subst hK; exact call_isi
end
theorem comp_listD {K : PySem.W.Frag} {a : Addr} {xs : List V} {tt : TTg} {tc : TT} {te : TE} {cap : List Nat} {σ : St} {H : Hp} {D : Addr → List V → Hp → Prop} (Pv : Nat → List V → Hp → Prop) (h0 : Pv 0 [] H) (hz : xs.length ≤ sizeLine) (hl : ∀ i ys H, i ≤ xs.length → Pv i ys H → SqL K H a xs ∧ ys.length ≤ i)
    (hs : ∀ i x ys H, xs[i]? = some x → Pv i ys H → tt x H fun ws => tc (ws.map some ++ capS σ cap) H fun b H4 => if b = true then te (ws.map some ++ capS σ cap) H4 fun y H5 => Pv (i + 1) (ys ++ [y]) H5 else Pv (i + 1) ys H4)
    (hd : ∀ ys H, Pv xs.length ys H → ∀ p, H p = none → D p ys H) :
    ∃ W : Nat → Nat → List V → Hp → Prop, (∃ m, W 0 m [] H) ∧ ∀ i m ys H2, W i m ys H2 →
    ((Itl K a).stop i H2 ∧ ys.length ≤ sizeLine ∧ ∀ p, H2 p = none → D p ys H2) ∨
    ((Itl K a).go i H2 ∧ ∃ N : List V → Hp → Prop, (∀ ys' H', N ys' H' → ys'.length ≤ sizeLine ∧ ∃ m', m' < m ∧ W (i + 1) m' ys' H') ∧
      ∀ x H3, (Itl K a).yld i H2 x H3 → tt x H3 fun ws => tc (ws.map some ++ capS σ cap) H3 fun b H4 =>
        if b = true then te (ws.map some ++ capS σ cap) H4 fun y H5 => N (ys ++ [y]) H5 else N ys H4) := by
  refine ⟨fun i m ys H => m = xs.length - i ∧ i ≤ xs.length ∧ Pv i ys H, ⟨xs.length, by simp, Nat.zero_le _, h0⟩, ?_⟩
  rintro i m ys H2 ⟨rfl, hi, p⟩
  obtain ⟨q, hy⟩ := hl i ys H2 hi p
  by_cases hlt : i < xs.length
  · refine .inr ⟨⟨xs, xs[i], q, by simp [hlt]⟩, Pv (i + 1), fun ys' H' r => ?_, fun x H3 y => ?_⟩
    · obtain ⟨_, h2⟩ := hl (i + 1) ys' H' hlt r
      exact ⟨by omega, xs.length - (i + 1), by omega, rfl, hlt, r⟩
    · obtain ⟨e, y⟩ := y
      subst e
      exact hs i x ys _ (y xs q) p
  · have e : i = xs.length := by omega
    subst e
    exact .inl ⟨⟨xs, q, Nat.le_refl _⟩, by omega, hd ys H2 p⟩
theorem comp_rangeD {lo : Int} {n : Nat} {tt : TTg} {tc : TT} {te : TE} {cap : List Nat} {σ : St} {H : Hp} {D : Addr → List V → Hp → Prop} (Pv : Nat → List V → Hp → Prop) (h0 : Pv 0 [] H) (hz : n ≤ sizeLine) (hl : ∀ i ys H, i ≤ n → Pv i ys H → ys.length ≤ i)
    (hs : ∀ i ys H, i < n → Pv i ys H → tt (.int (lo + i)) H fun ws => tc (ws.map some ++ capS σ cap) H fun b H4 => if b = true then te (ws.map some ++ capS σ cap) H4 fun y H5 => Pv (i + 1) (ys ++ [y]) H5 else Pv (i + 1) ys H4)
    (hd : ∀ ys H, Pv n ys H → ∀ p, H p = none → D p ys H) :
    ∃ W : Nat → Nat → List V → Hp → Prop, (∃ m, W 0 m [] H) ∧ ∀ i m ys H2, W i m ys H2 →
    ((Itr lo n).stop i H2 ∧ ys.length ≤ sizeLine ∧ ∀ p, H2 p = none → D p ys H2) ∨
    ((Itr lo n).go i H2 ∧ ∃ N : List V → Hp → Prop, (∀ ys' H', N ys' H' → ys'.length ≤ sizeLine ∧ ∃ m', m' < m ∧ W (i + 1) m' ys' H') ∧
      ∀ x H3, (Itr lo n).yld i H2 x H3 → tt x H3 fun ws => tc (ws.map some ++ capS σ cap) H3 fun b H4 =>
        if b = true then te (ws.map some ++ capS σ cap) H4 fun y H5 => N (ys ++ [y]) H5 else N ys H4) := by
  refine ⟨fun i m ys H => m = n - i ∧ i ≤ n ∧ Pv i ys H, ⟨n, by simp, Nat.zero_le _, h0⟩, ?_⟩
  rintro i m ys H2 ⟨rfl, hi, p⟩
  have hy := hl i ys H2 hi p
  by_cases hlt : i < n
  · refine .inr ⟨hlt, Pv (i + 1), fun ys' H' r => ?_, fun x H3 y => ?_⟩
    · have h2 := hl (i + 1) ys' H' hlt r
      exact ⟨by omega, n - (i + 1), by omega, rfl, hlt, r⟩
    · obtain ⟨e, y⟩ := y
      subst e; subst y
      exact hs i ys _ hlt p
  · have e : i = n := by omega
    subst e
    exact .inl ⟨Nat.le_refl _, by omega, hd ys H2 p⟩
end L2
set_option Elab.async false
set_option linter.all false
set_option maxRecDepth 100000
set_option maxHeartbeats 1000000
namespace L2
open PySem PySem.Spec PyProof.Rows
end L2
set_option Elab.async false
set_option linter.all false
set_option maxRecDepth 100000
set_option maxHeartbeats 1000000
namespace L2
open PySem
section
variable {H H' : Hp} {r : Addr} {as : List Addr} {Ls : List (List Int)}
end
end L2
set_option Elab.async false
set_option linter.all false
set_option maxRecDepth 100000
set_option maxHeartbeats 1000000
namespace L2
open PySem PySem.Spec PyProof.Rows
section
variable {X : Cx}
end
end L2
set_option Elab.async false
set_option linter.all false
set_option maxRecDepth 100000
set_option maxHeartbeats 1000000
namespace L2
open PySem PySem.Spec PyProof.Rows
section
variable {X : Cx}
end
end L2
set_option Elab.async false
set_option linter.all false
set_option maxRecDepth 100000
set_option maxHeartbeats 1000000
namespace L2
open PySem PySem.Spec PyProof.Rows
section
variable {X : Cx}
end
end L2
set_option Elab.async false
set_option linter.all false
set_option maxRecDepth 100000
set_option maxHeartbeats 4000000
namespace L2
open PySem PySem.Spec PyProof.Rows
section
variable {P : Program} {w : World} {A : Around} {E : Value → Shared → Prop} {s : Shared}
end
end L2
set_option Elab.async false
set_option linter.all false
set_option maxRecDepth 100000
set_option maxHeartbeats 1000000
namespace L2
open PySem PySem.Spec PySem.W PyProof.Rows PySem.Builtin PySem.Builtin.ObjectAttr PySem.Builtin.Getset_descriptor
structure XcK (K : Frag) (C : Addr) : Prop where
  ga : findIn K (.ref C) "__getattribute__" = some (some (.builtin "BaseException.__getattribute__"))
  gn : findIn K (.ref C) "__getattr__" = some none
  cl : findIn K (.ref C) "__class__" = some (some (.builtin "object.__class__"))
  sp : specialIn K (.builtin "object.__class__") "__get__" = some (some (.builtin "getset_descriptor.__get__"))
  tk : takesIn K (.builtin "object.__class__") = some true
  mo : mroIn K C (.type "object") = some true
  me : mroIn K C (.type "BaseException") = some true
  ci : (clsIn K C).isSome = true
def XObj (e C : Addr) (h : Heap) : Prop := ∃ (o : Obj) (vs : Array Value), h.get? e = some o ∧ o.cls = .ref C ∧ o.data = .fields vs
theorem XObj.ty {e C : Addr} {h : Heap} {M : Model} (x : XObj e C h) : Looks M h (typeOf (.ref e)) (.ref C) := by
  obtain ⟨o, vs, h1, h2, _⟩ := x
  rw [← h2]
  exact (Looks.ld h1).andThen .now
theorem XObj.keeps {e C : Addr} {h h' : Heap} (x : XObj e C h) (k : ∀ o, h.get? e = some o → h'.get? e = some o) : XObj e C h' := let ⟨o, vs, h1, h2⟩ := x; ⟨o, vs, k o h1, h2⟩
section
variable {prog : Program} {w : World} {A : Around} {E : Value → Shared → Prop} {s : Shared} {K : Frag} {x C : Addr}
theorem xc_find {M : Model} {h : Heap} (Z : XcK K C) (X : K.In h) : Looks M h (Builtin.ObjectAttr.find (.ref x) (.ref C) "__class__") (.bind (.builtin "getset_descriptor.__get__") (.builtin "object.__class__")) := by
  have L3 := looks_takesIn (M := M) X Z.tk
  have L4 : Looks M h (Builtin.ObjectAttr.dataDescriptor? (some (.builtin "object.__class__")) (some (.builtin "getset_descriptor.__get__"))) (some (.builtin "getset_descriptor.__get__", .builtin "object.__class__")) := L3.andThen .now
  have L2 : Looks M h (Builtin.ObjectAttr.getOf (some (.builtin "object.__class__"))) (some (.builtin "getset_descriptor.__get__")) := looks_specialIn X Z.sp
  exact (looks_findIn X Z.cl).andThen (L2.andThen (L4.andThen (Looks.tag .now)))
theorem xc_get {tp : Value} {R : Result → Shared → Prop} (Z : XcK K C) (X : K.In s.heap) (I : XObj x C s.heap) (h : R (.ok (.ret (.ref C))) s) :
    codeAny (model prog w) A (.call (.builtin "getset_descriptor.__get__") ⟨[.builtin "object.__class__", .ref x, tp], []⟩) R s := by
  obtain ⟨hp, gs, dr, tk, os⟩ := s
  have T0 := I.ty (M := model prog w)
  have T1 := looks_mroIn (M := model prog w) X Z.mo
  refine codeAny_call_builtin KF.slot_gs.plain KF.entry_gs ?_
  refine KF.slot_gs.check _ _ _ _ _ _ _ _ KF.type_class (KF.args_gs _ _ _) ?_
  unfold Builtin.«getset_descriptor.__get__»
  unfold descrGet
  rw [dga_obj]
  apply wpAny_bind
  apply wpAny_pure
  unfold descrGetter descrCheckInstance
  unfold descrNameAndClass isInstance
  simp only [KF.owner_class]
  repeat lk
  constructor
  · exact Code.quiet_builtin _ (by decide +kernel)
  · apply codeAny_builtin KF.entry_class
    unfold Builtin.«object.__class__»
    unfold shownTypeOf
    repeat lk
    exact h
theorem xc_check {nv : Value} {M : Model} {Q : Unit → Shared → Prop} (Z : XcK K C) (X : K.In s.heap) (I : XObj x C s.heap) (h : Q () s) : wpAny M A (checkBuiltinCall "BaseException.__getattribute__" ⟨[.ref x, nv], []⟩) Q E s := by
  obtain ⟨hh, g, d, t, os⟩ := s
  have L0 := I.ty (M := M)
  have L1 := looks_mroIn (M := M) X Z.me
  have k1 : builtinKind "BaseException.__getattribute__" = some .slot := by decide +kernel
  have k2 : splitId "BaseException.__getattribute__" = some ("BaseException", "__getattribute__") := by decide +kernel
  have k3 := F.args_bexc_ga (.ref x) nv
  simp only [checkBuiltinCall, k1, k2]
  refine wpAny_bind ?_
  unfold isInstance
  repeat (first | with_reducible refine L0.at ?_ | with_reducible refine L1.at ?_ | wp_step)
  exact h
theorem xc_call {tk : Tok} {R : Result → Shared → Prop} (Z : XcK K C) (X : K.In s.heap) (I : XObj x C s.heap) (h : R (.ok (.ret (.ref C))) s) :
    codeAny (model prog w) A (.call (.builtin "BaseException.__getattribute__") ⟨[.ref x, .str "__class__" tk], []⟩) R s := by
  refine codeAny_call_builtin F.excAttr_ValueError.ga.plain F.entry_bexc_ga (xc_check Z X I ?_)
  obtain ⟨hh, g, d, t, os⟩ := s
  have L0 := I.ty (M := model prog w)
  have L3 := xc_find (M := model prog w) (x := x) Z X
  unfold Builtin.«object.__getattribute__»
  repeat (any_goals (first | assumption | with_reducible refine L0.at ?_ | with_reducible refine L3.at ?_ | wp_step))
  refine xc_get Z X I ?_
  repeat (any_goals (first | assumption | wp_step))
theorem xc_class {Q : Option Value → Shared → Prop} (Z : XcK K C) (X : K.In s.heap) (I : XObj x C s.heap) (h : Q (some (.ref C)) { s with toks := s.toks + 1 }) : wpAny (model prog w) A (getAttr? (.ref x) "__class__") Q E s := by
  obtain ⟨hh, g, d, t, os⟩ := s
  have L0 := I.ty (M := model prog w)
  have L1 := looks_findIn (M := model prog w) X Z.ga
  have L2 := looks_findIn (M := model prog w) X Z.gn
  have L3 := xc_find (M := model prog w) (x := x) Z X
  unfold getAttr? getAttrBy? getAttrBy
  refine wpAny_bind (wpAny_mkText (wpAny_bind (wpAny_attempt (wpAny_holding (wpAny_bind (L0.at (wpAny_bind (L1.at ?_))))))))
  have f3 := F.excAttr_ValueError.ga.bind (.ref x)
  have e0 : (false && onTheHeap (Value.builtin "BaseException.__getattribute__")) = false := rfl
  have e2 : (Value.builtin "BaseException.__getattribute__" == Value.builtin "object.__getattribute__") = false := by decide +kernel
  have e1 : (onTheHeap (Value.ref C) && Value.builtin "BaseException.__getattribute__" == Value.builtin "object.__getattribute__") = false := by rw [e2]; rfl
  repeat (any_goals (first | assumption | with_reducible refine L0.at ?_ | with_reducible refine L1.at ?_ | with_reducible refine L2.at ?_ | wp_step))
  refine xc_call Z X I ?_
  repeat (any_goals (first | assumption | wp_step))
end
theorem cls_at {K : Frag} {C : Addr} {h : Heap} (X : K.In h) (z : (clsIn K C).isSome = true) : ∃ (o : Obj) (cd : ClassData), h.get? C = some o ∧ o.data = .cls cd := by
  obtain ⟨cd, hc⟩ := Option.isSome_iff_exists.mp z
  unfold clsIn at hc
  split at hc
  · rename_i ho
    exact ⟨_, _, X _ _ ho, rfl⟩
  · cases hc
theorem kitx_exc {K : Frag} {e C : Addr} (Z : XcK K C) : KitX K (.ref e) (.ref C) (XObj e C) where
  ty := fun _ _ _ p => p.ty
  it := fun M h X _ => by
    obtain ⟨o, cd, ho, hd⟩ := cls_at X Z.ci
    intro A' Q' E' s' k q
    unfold isType loadHead
    refine wpAny_bind (wpAny_loadPart (k _ _ ho) ?_)
    rw [hd]
    exact wpAny_pure q
  ne := fun h tp dd its n sl X htp => by
    obtain ⟨o, cd, ho, hd⟩ := cls_at X Z.ci
    refine Bool.eq_false_iff.mpr fun q => ?_
    have e' : C = tp := Value.ref.inj (beq_iff_eq.mp q)
    subst e'
    rw [ho] at htp
    cases htp
    cases hd
  ca := fun X p k => xc_class Z X p k
end L2
set_option Elab.async false
set_option linter.all false
set_option maxRecDepth 100000
set_option maxHeartbeats 1000000
namespace L2
open PySem PySem.Spec PyProof.Rows
theorem ObjOk.got {P : Program} {w : World} {H : Hp} {h : Heap} {a : Addr} {o : HO} (x : ObjOk P w H h a o) : ∃ ob, h.get? a = some ob := by
  cases o with
  | lst xs => obtain ⟨_, _, _, _, e⟩ := x; exact ⟨_, e⟩
  | tup xs => obtain ⟨_, _, _, _, e, _⟩ := x; exact ⟨_, e⟩
  | dK kvs => obtain ⟨_, _, _, _, _, _, _, e, _⟩ := x; exact ⟨_, e⟩
  | dT kvs => obtain ⟨_, _, _, _, _, _, _, e, _⟩ := x; exact ⟨_, e⟩
  | set S n => obtain ⟨_, _, _, _, e, _⟩ := x; exact ⟨_, e⟩
  | ins C dx fs => obtain ⟨_, _, _, e, _⟩ := x; exact ⟨_, e⟩
  | own y => exact x
  | xd fs => obtain ⟨_, ⟨_, _, _, e, _⟩, _⟩ := x; exact ⟨_, e⟩
  | rng lo hi => obtain ⟨_, _, _, e⟩ := x; exact ⟨_, e⟩
  | frz ob u => exact ⟨_, x.1⟩
  | tbl ps => exact ⟨_, x⟩
  | met f y => exact ⟨_, x⟩
  | ext φ => exact x.2.1
theorem HOk.by {P : Program} {w : World} {H : Hp} {h h' B : Heap} (x : HOk P w H h) (hB : ∀ b u, H b = some u → ∃ o, B.get? b = some o) (k1 : ∀ b o, B.get? b = some o → h.get? b = some o) (k2 : ∀ b o, B.get? b = some o → h'.get? b = some o) : HOk P w H h' := fun a o e =>
  (x a o e).stay (fun b u hb q => by
    have ht : ∃ v, H b = some v := by
      rcases hb with rfl | hb
      · exact ⟨_, e⟩
      · exact ⟨_, hb⟩
    obtain ⟨v, hv⟩ := ht
    obtain ⟨ob, ho⟩ := hB b v hv
    have := k1 b ob ho
    rw [q] at this
    cases this
    exact k2 b _ ho) (fun _ q => q) fun _ _ q => q
def CXR (P : Program) (w : World) : CXT := fun outer H s E e s' => ∃ (ea C t : Addr) (H' : Hp) (B : Heap), e = .ref ea ∧ s'.os = s.os ∧ AllBare s'.gens ∧ Un (frs outer) [] H H' s.heap s'.heap ∧ HOk P w H' s'.heap ∧
  Heap.FlyingW B outer ea (.ref C) (.ref t) s'.heap ∧ (∀ b o, s.heap.get? b = some o → b ∉ frs outer → ∃ o', B.get? b = some o') ∧ (∀ b u, H' b = some u → ∃ o, B.get? b = some o) ∧ E (.ref C) none H'
theorem passX0 {P : Program} {w : World} {X : Cx} : Passes (CXR P w) X E0 := fun _ _ _ _ _ _ _ ⟨_, _, _, _, _, _, _, _, _, _, _, _, _, h⟩ => h.elim
section
variable {X : Cx} {pins : List (Addr × Obj)} {σ : St} {H : Hp} {s : Shared}
theorem Inv.notStk (I : Inv X pins σ H s) {b : Addr} {o : Obj} (e : X.s₀.heap.get? b = some o) (h : b ∉ X.fs) : b ∉ frs X.stack := fun z => by
  rcases List.mem_cons.mp (I.stkSub b z) with q | q
  · exact absurd q (Nat.ne_of_lt (Nat.lt_of_lt_of_le (Heap.lt_size e) I.ok.above))
  · exact h q
theorem Inv.stkSup (I : Inv X pins σ H s) {b : Addr} (h : b ∈ X.fs) : b ∈ frs X.stack := by
  rcases I.ok.stk with e | ⟨e, hf⟩
  · rw [e]; exact h
  · rw [e]; unfold frs; rw [List.filterMap_cons, hf]; exact List.mem_cons_of_mem _ h
theorem leaves_made {M : Model} {E2 : Value → Shared → Prop} {h' : Heap} {e C : Addr} {us : List Value} {E : XK} (I : Inv X pins σ H s) (hst : X.stack = X.env :: X.outer) (hf : X.env.frame = some X.env.locals) (hex : X.ex = [])
    (hm : Heap.MadeExcOf s.heap h' e (.ref C) us) (hE : E (.ref C) none H) : wpAny M X.A (leaving X.env (.ref e)) (fun _ s'' => CXR X.prog X.w X.outer X.H₀ X.s₀ E (.ref e) s'') E2 { s with heap := h' } := by
  have hfun := I.stack
  have hin : ∀ env ∈ X.stack, ∀ a, env.frame = some a → a ∈ frs X.stack := fun env he a ha => List.mem_filterMap.mpr ⟨env, he, ha⟩
  have hB1 : ∀ b o, s.heap.get? b = some o → b ∉ frs X.stack → (PySem.W.hideAll s.heap (frs X.stack)).get? b = some o := fun b o q n => PySem.W.hideAll_get _ q n
  have hB0 : ∀ b o, (PySem.W.hideAll s.heap (frs X.stack)).get? b = some o → s.heap.get? b = some o := fun b o q => PySem.W.of_hideAll _ q
  have hfun2 := PySem.W.funFrames_hide hfun hin
  have noex : ∀ b, b ∉ X.ex := fun b z => by rw [hex] at z; cases z
  rw [hst] at hfun2
  have trk : ∀ b u, H b = some u → ∃ o, (PySem.W.hideAll s.heap (frs X.stack)).get? b = some o := fun b u q => by
    obtain ⟨o, ho⟩ := (I.hok b u q).got
    exact ⟨o, hB1 b o ho fun z => by rw [I.stkFree b z] at q; cases q⟩
  have old : ∀ b o, X.s₀.heap.get? b = some o → b ∉ X.fs → ∃ o', (PySem.W.hideAll s.heap (frs X.stack)).get? b = some o' := fun b o q n => by
    obtain ⟨o', ho⟩ := I.base.there b o q (noex b)
    exact ⟨o', hB1 b o' ho (I.notStk q n)⟩
  refine wpAny_leaves_madeW (base := PySem.W.hideAll s.heap (frs X.stack)) (hst ▸ I.ok.frames) hf hB0 (hst ▸ hfun2) hm fun h2 t x1 x2 x3 x4 => ?_
  have fr : ∀ b o, s.heap.get? b = some o → b ∈ X.fs → ∃ sl, h2.get? b = some { o with slots := sl } := fun b o q hb => by
    obtain ⟨_, o', ho', hd⟩ := I.funs.mem hb
    rw [q] at ho'; cases ho'
    exact x4 b o (hm.keeps b o q) hd
  refine ⟨e, C, t, H, _, rfl, I.os, I.bare, ⟨fun b o q n hb _ => ?_, fun b o q n hb _ => ?_, fun b o q n _ => I.base.free b o q n (noex b), fun b o q _ => ?_, I.base.tups, I.base.frzs, I.base.tbls⟩, I.hok.by trk hB0 x1.1, x1, old, trk, hE⟩
  · exact x1.1 b o (hB1 b o (I.base.keep b o q n hb (noex b)) (I.notStk q hb))
  · obtain ⟨sl, e1⟩ := I.base.slot b o q n hb (noex b)
    obtain ⟨sl2, e2⟩ := fr b _ e1 hb
    exact ⟨sl2, e2⟩
  · by_cases hb : b ∈ X.fs
    · obtain ⟨o', e1⟩ := I.base.there b o q (noex b)
      obtain ⟨sl2, e2⟩ := fr b _ e1 hb
      exact ⟨_, e2⟩
    · obtain ⟨o', e1⟩ := old b o q hb
      exact ⟨_, x1.1 b o' e1⟩
theorem leaves_on {M : Model} {E2 : Value → Shared → Prop} {e : Value} {s' : Shared} {E : XK} (I : Inv X pins σ H s) (hst : X.stack = X.env :: X.outer) (hf : X.env.frame = some X.env.locals) (hex : X.ex = [])
    (h : CXR X.prog X.w X.stack H s E e s') : wpAny M X.A (leaving X.env e) (fun _ s'' => CXR X.prog X.w X.outer X.H₀ X.s₀ E e s'') E2 s' := by
  obtain ⟨ea, C, t, H', B, rfl, os, bare, un, hok, fl, b1, b2, hE⟩ := h
  have noex : ∀ b, b ∉ X.ex := fun b z => by rw [hex] at z; cases z
  have fl0 := fl
  rw [hst] at fl0
  refine wpAny_leaves_onW (hst ▸ I.ok.frames) hf fl0 fun h2 x1 x2 => ?_
  have nex : ∀ b : Addr, b ∉ ([] : List Addr) := fun b z => by cases z
  have old : ∀ b o, X.s₀.heap.get? b = some o → b ∉ X.fs → ∃ o', B.get? b = some o' := fun b o q n => by
    obtain ⟨o', ho⟩ := I.base.there b o q (noex b)
    exact b1 b o' ho (I.notStk q n)
  have fr : ∀ b o, s'.heap.get? b = some o → b ∈ X.fs → ∃ sl, h2.get? b = some { o with slots := sl } := fun b o q hb => by
    obtain ⟨_, o', ho', hd⟩ := fl.2.2.1.mem (I.stkSup hb)
    rw [q] at ho'; cases ho'
    exact x2 b o q hd
  refine ⟨ea, C, t, H', B, rfl, os.trans I.os, bare, ⟨fun b o q n hb _ => ?_, fun b o q n hb _ => ?_, fun b o q n _ => ?_, fun b o q _ => ?_, fun b xs q => un.tups b xs (I.base.tups b xs q), fun b o u q => un.frzs b o u (I.base.frzs b o u q), fun b ps q => ?_⟩, hok.by b2 fl.1 x1.1, x1, old, b2, hE⟩
  · have e1 := I.base.keep b o q n hb (noex b)
    have e2 := un.keep b o e1 (I.base.free b o q n (noex b)) (I.notStk q hb) (nex b)
    obtain ⟨o', e3⟩ := old b o q hb
    have e4 := fl.1 b o' e3
    rw [e2] at e4; cases e4
    exact x1.1 b _ e3
  · obtain ⟨sl, e1⟩ := I.base.slot b o q n hb (noex b)
    obtain ⟨sl1, e2⟩ := un.slot b _ e1 (I.base.free b o q n (noex b)) (I.stkSup hb) (nex b)
    obtain ⟨sl2, e3⟩ := fr b _ e2 hb
    exact ⟨sl2, e3⟩
  · obtain ⟨o', e1⟩ := I.base.there b o q (noex b)
    exact un.free b o' e1 (I.base.free b o q n (noex b)) (nex b)
  · by_cases hb : b ∈ X.fs
    · obtain ⟨o', e1⟩ := I.base.there b o q (noex b)
      obtain ⟨o2, e2⟩ := un.there b o' e1 (nex b)
      obtain ⟨sl2, e3⟩ := fr b _ e2 hb
      exact ⟨_, e3⟩
    · obtain ⟨o', e1⟩ := old b o q hb
      exact ⟨_, x1.1 b o' e1⟩
  · obtain ⟨m1, e1⟩ := I.base.tbls b ps q
    obtain ⟨m2, e2⟩ := un.tbls b _ e1
    exact ⟨m1 ++ m2, by rw [e2, Array.append_assoc]⟩
end
end L2
set_option Elab.async false
set_option linter.all false
set_option maxRecDepth 100000
set_option maxHeartbeats 1000000
namespace L2
open PySem PySem.Spec PyProof.Rows
abbrev bmV : List Value := [.type "ValueError", .type "Exception", .type "BaseException", .type "object"]
theorem exc_at {K : PySem.W.Frag} {h : Heap} {C : Addr} {bmB : List Value} {newId : String} (X : K.In h) (q : PySem.W.excIn K C bmB newId = true) :
    ∃ bm N nm qn bs hdct sn sub ab col dd k0 k1 k2 k3 k5 mN, h.get? C = some (excClassObj nm qn C N bs bm hdct sn sub ab col dd k0 k1 k2 k3 k5 newId) ∧ h.Ns N mN ∧ mN "__init__" = none ∧ OwnTail h bmB bm := by
  unfold PySem.W.excIn at q
  split at q
  case h_2 => cases q
  case h_1 dd cd sl ho =>
    split at q
    case h_2 => cases q
    case h_1 C' bm k0 k1 k2 k3 n k5 hm hs =>
      simp only [Bool.and_eq_true, beq_iff_eq, Bool.not_eq_true'] at q
      obtain ⟨⟨⟨⟨⟨z1, z2⟩, z3⟩, z4⟩, z5⟩, z6⟩ := q
      cases z1
      cases z2
      obtain ⟨nm, bs, mro, ns, qn, hd, sn, sub, ab, col, del⟩ := cd
      cases hm
      cases z3
      have es : sl = #[k0, k1, k2, k3, some (.builtin newId), k5] := by
        cases sl with
        | mk l => simp only at hs; rw [hs]
      cases es
      exact ⟨bm, ns, nm, qn, bs, hd, sn, sub, ab, col, dd, k0, k1, k2, k3, k5, _, X _ _ ho, Heap.Ns.of_isNs (PySem.W.isNs_of_in X z5), PySem.W.nsMap_none_of_in X z5 z6, PySem.W.tail_of_in X z4⟩
def Raises (X : Cx) (E : XK) : Prop := ∀ (pins : List (Addr × Obj)) (σ : St) (H : Hp) (s : Shared) (h' : Heap) (e C : Addr) (us : List Value), Inv X pins σ H s → Heap.MadeExcOf s.heap h' e (.ref C) us → E (.ref C) none H → X.xe (.ref e) { s with heap := h' }
def tRaise (t : TA) (C : Addr) (E : XK) : TS := fun _ σ H => t σ H fun vs H1 => vs.length ≤ sizeLine ∧ E (.ref C) none H1
section
variable {X : Cx}
theorem ps_raise {E : XK} {x : Str} {C : Addr} {e0 : Expr} {rest : List Expr} {t : TA} {np cpos pos : Pos} (hr : Raises X E) (hm : X.mg x = some (.ref C)) (q : PySem.W.excIn X.K C bmV "ValueError.__new__" = true) (ha : PA X (e0 :: rest) t) (hc : X.calm = true := by rfl) (hg : Gl X x := by rfl)
    (hdb : (x == ("__debug__" : Str)) = false := by decide) (he : starEach (e0 :: rest) X.env = (false, eval e0 X.env) :: starEach rest X.env := by rfl) (hpl : (backTo cpos (starEach rest X.env)).any (·.1) = false := by rfl) :
    PS X (.Raise (some (.Call (.Name x np) (e0 :: rest) [] cpos)) none pos) (tRaise t C E) := by
  intro pins s σ H D I h
  obtain ⟨tl, N, nm, qn, bs, hdct, sn, sub, ab, col, dd, k0, k1, k2, k3, k5, mN, hC, hN, hni, T⟩ := exc_at I.mod.kin q
  refine wpAny_Raise_call_subT (C := C) (nm := nm) (q := qn) (N := N) (bs := bs) (bm := tl) (hdct := hdct) (sn := sn) (sub := sub) (ab := ab) (col := col) (dd := dd) (k0 := k0) (k1 := k1) (k2 := k2) (k3 := k3) (k5 := k5)
    PySem.F.excBase_ValueError (mN := mN) (T.hasType PySem.F.excBase_ValueError.hasBase) (I.ok.hd hc) ?_ hni (ld_glob I hg hm ⟨rfl, ?_⟩ hdb)
  · rw [he]
    show (false || (backTo cpos (starEach rest X.env)).any (·.1)) = false
    rw [hpl]; rfl
  have h2 := ha cpos pins s σ H _ I h
  rw [he] at h2 ⊢
  refine Calls.evalArgs_plain (thn h2 fun us s2 hm0 => ?_)
  obtain ⟨vs, H1, I1, r1, q1, q2⟩ := hm0
  exact ⟨rfl, by rw [← r1.length]; exact q1, I1.bk _ _ hC, hN.keeps I1.bk, T.keeps I1.bk, fun h' e hm => hr pins σ H1 s2 h' e C us I1 hm q2⟩
end
section
variable {P : Program} {w : World} {K : PySem.W.Frag} {mg : Str → Option Value} {base : Heap}
abbrev cxR (P : Program) (w : World) (K : PySem.W.Frag) (mg : Str → Option Value) (base : Heap) (N : List Str) (qual : Str) (scope : Scope) (f : Addr) (cd : Value) (A : Around) (outer : List Env) (s : Shared) (H : Hp) (E : XK) : Cx := cxOf (CXR P w) P w K mg base N qual scope f cd A outer s H E
theorem raisesR {N : List Str} {qual : Str} {scope : Scope} {f : Addr} {cd : Value} {A : Around} {outer : List Env} {s : Shared} {H : Hp} {E : XK} : Raises (cxR P w K mg base N qual scope f cd A outer s H E) E :=
  fun pins σ H1 s1 h' e C us I hm hE => leaves_made (X := cxR P w K mg base N qual scope f cd A outer s H E) I rfl rfl rfl hm hE
theorem passR {N : List Str} {qual : Str} {scope : Scope} {f : Addr} {cd : Value} {A : Around} {outer : List Env} {s : Shared} {H : Hp} {E : XK} : Passes (CXR P w) (cxR P w K mg base N qual scope f cd A outer s H E) E :=
  fun pins σ H1 s1 e s' I h => leaves_on (X := cxR P w K mg base N qual scope f cd A outer s H E) I rfl rfl rfl h
structure DnX (P : Program) (w : World) (K : PySem.W.Frag) (mg : Str → Option Value) (base : Heap) (x : Str) (n : Nat) (ps : List Str) (sp : Sp) : Prop where
  ex : ∃ f fd, FnOk P w K mg base (CXR P w) n f fd ps sp ∧ mg x = some (.ref f) ∧ PySem.W.keepIn K (.ref f) = true ∧ Binds K fd ps []
theorem DefAt.okX {x : Str} {st : Stmt} {N ps : List Str} {k : Nat} {sp : Sp} (F : DefAt K mg x st ps) (S : FnScope N ps (defScope st)) (len : ∀ vs H Q E, sp vs H Q E → vs.length = ps.length)
    (hbody : ∀ (f : Addr) (cdv : Value) (A : Around) (outer : List Env) (s : Shared) (H : Hp) (vs : List V) (Q : VK) (E : XK), Room k (A.deeper (envOfC x (defScope st) s.heap.objs.size f cdv)) → sp vs H Q E →
      ∃ t, PSs (cxR P w K mg base N x (defScope st) f cdv A outer s H E) (defBody st) t ∧ t { nx := fun _ H' => Q .non H', rt := Q } (start N vs) H) : DnX P w K mg base x (k + 1) ps sp := by
  obtain ⟨f, fd, F, hm, hb⟩ := F.ex
  have kp := F.kp
  obtain ⟨oc, od, kV, doc, pm, an, cdv, ct, osl, rfl, lk, hcd⟩ := F.ex
  exact ⟨f, _, fn_of lk hcd S len fun A outer s H vs Q E hr hsp => hbody f cdv A outer s H vs Q E hr hsp, hm, kp, hb⟩
end
theorem pe_dnX {X : Cx} {E : XK} {x : Str} {n k : Nat} {ps : List Str} {sp : Sp} {e : Expr} {es : List Expr} {t : TA} {p pos : Pos} (hx : Passes (CXR X.prog X.w) X E) (D : DnX X.prog X.w X.K X.mg X.base x n ps sp) (hr : Room k X.A) (ha : PA X (e :: es) t) (hk : n ≤ k := by decide) (hg : Gl X x := by rfl)
    (hdb : (x == ("__debug__" : Str)) = false := by decide) (he : starEach (e :: es) X.env = (false, eval e X.env) :: starEach es X.env := by rfl) (hpl : (backTo pos (starEach es X.env)).any (·.1) = false := by rfl) :
    PE X (.Call (.Name x p) (e :: es) [] pos) (tCall sp [] E t) := by
  obtain ⟨f, fd, F, hm, kp, hb⟩ := D.ex
  exact pe_call F (hr.mono hk) hg hm kp hb .nil hx ha hdb he hpl
end L2
set_option Elab.async false
set_option linter.all false
set_option maxRecDepth 100000
set_option maxHeartbeats 1000000
namespace L2
open PySem PySem.Spec PyProof.Rows
def xcO (e C : Addr) : HO := .ext fun h => XObj e C h
theorem fly_obj {B h : Heap} {l : List Env} {e C : Addr} {a0 : Value} (f : Heap.FlyingW B l e (.ref C) a0 h) : XObj e C h := by
  obtain ⟨_, _, _, oe, ws, _, _, _, he, hc, hd, _⟩ := f
  exact ⟨oe, ws, he, hc.1, hd⟩
abbrev Cx.suite (X : Cx) (e : Addr) : Cx := { X with A := X.A.mark (some (.ref e)), calm := false, xe := fun _ _ => False }
section
variable {X : Cx} {pins : List (Addr × Obj)} {σ : St} {H : Hp} {s : Shared}
theorem Inv.suite (I : Inv X pins σ H s) (e : Addr) : Inv (X.suite e) pins σ H s :=
  ⟨⟨I.ok.mod, I.ok.kind, I.ok.glob, I.ok.blt, I.ok.above, I.ok.inj, I.ok.has, I.ok.cab, (fun z => by cases z), I.ok.frames, I.ok.stk, I.ok.exf, I.ok.bs, I.ok.bsz, I.ok.noex, I.ok.exfs, I.ok.funs, I.ok.frf⟩, I.os, I.bare, I.base, I.loc, I.cell, I.free, I.freeC, I.pin, I.hok, I.len⟩
theorem Inv.unsuite {e : Addr} (hh : X.A.handled = none) (I : Inv (X.suite e) pins σ H s) : Inv X pins σ H s :=
  ⟨⟨I.ok.mod, I.ok.kind, I.ok.glob, I.ok.blt, I.ok.above, I.ok.inj, I.ok.has, I.ok.cab, (fun _ => hh), I.ok.frames, I.ok.stk, I.ok.exf, I.ok.bs, I.ok.bsz, I.ok.noex, I.ok.exfs, I.ok.funs, I.ok.frf⟩, I.os, I.bare, I.base, I.loc, I.cell, I.free, I.freeC, I.pin, I.hok, I.len⟩
theorem Inv.forget {i : Nat} {n : Str} {h' : Heap} {v : Option Value} {m : Str → Option Value} {t' : Nat} (I : Inv X pins σ H s) (hN : X.N.Nodup) (hi : X.N[i]? = some n) (hn : s.heap.Ns X.env.locals m) (hn' : h'.Ns X.env.locals (fun x => if x = n then v else m x)) (hs : Heap.SameBut X.env.locals s.heap h') :
    Inv X pins (σ.set i none) H { s with heap := h', toks := t' } := by
  obtain ⟨oL, _, _, hoL, _⟩ := id hn
  have neL : ∀ b o, X.s₀.heap.get? b = some o → b ≠ X.env.locals := fun b o e => Nat.ne_of_lt (Nat.lt_of_lt_of_le (Heap.lt_size e) I.ok.above)
  have gen : ∀ b o, b ≠ X.env.locals → s.heap.get? b = some o → h'.get? b = some o := fun b o hb e => (hs.2 b hb).trans e
  refine ⟨I.ok, I.os, I.bare, ⟨fun b o e n0 hb hx => ?_, fun b o e n0 hb hx => ?_, I.base.free, fun b o e hx => ?_, I.base.tups, I.base.frzs, I.base.tbls⟩, ⟨_, hn', fun j y v' e1 e2 e3 => ?_⟩, fun y c e => ?_, I.free, I.freeC, fun p hp => ?_, fun b ob e => ?_, by simpa using I.len⟩
  · exact gen _ _ (neL b o e) (I.base.keep b o e n0 hb hx)
  · obtain ⟨sl, e1⟩ := I.base.slot b o e n0 hb hx
    exact ⟨sl, gen _ _ (neL b o e) e1⟩
  · obtain ⟨o', e1⟩ := I.base.there b o e hx
    exact ⟨o', gen _ _ (neL b o e) e1⟩
  · by_cases hj : j = i
    · subst hj
      rw [List.getElem?_set] at e2
      simp only [if_true] at e2
      split at e2 <;> cases e2
    · rw [List.getElem?_set_ne (Ne.symm hj)] at e2
      obtain ⟨m0, hm0, hl⟩ := I.loc
      obtain ⟨u', r', q⟩ := hl j y v' e1 e2 e3
      have hyn : y ≠ n := fun e => hj (nodup_ix hN e1 (e ▸ hi))
      refine ⟨u', r', ?_⟩
      rcases q with ⟨k, e⟩ | ⟨k, c, e, z⟩
      · refine .inl ⟨k, ?_⟩
        have : m0 y = m y := by
          obtain ⟨o1, es1, ep1, p1, p2, _, p3⟩ := hm0
          obtain ⟨o2, es2, ep2, q1, q2, _, q3⟩ := id hn
          rw [p1] at q1; cases q1
          rw [p2] at q2; cases q2
          rw [← p3 y, ← q3 y]
        simp [hyn, ← this, e]
      · exact .inr ⟨k, c, e, z.sameBut hs (I.cne y c e)⟩
  · obtain ⟨w', z⟩ := I.cell y c e
    exact ⟨w', z.sameBut hs (I.cne y c e)⟩
  · obtain ⟨e, n0, ne, nf, d⟩ := I.pin p hp
    exact ⟨gen _ _ ne e, n0, ne, nf, d⟩
  · refine (I.hok b ob e).stay (fun c w' hc q => gen c w' ?_ q) (fun _ q => q) fun _ _ q => q
    rintro rfl
    rcases hc with rfl | hc
    · rw [I.free] at e; cases e
    · rw [I.free] at hc; cases hc
theorem fly_inv {s' : Shared} {h5 B : Heap} {ea C t : Addr} {a5 : Value} {H' : Hp} (I : Inv X pins σ H s) (os : s'.os = s.os) (bare : AllBare s'.gens) (un : Un (frs X.stack) [] H H' s.heap s'.heap) (hok : HOk X.prog X.w H' s'.heap)
    (fl : Heap.FlyingW B X.stack ea (.ref C) (.ref t) s'.heap) (b1 : ∀ b o, s.heap.get? b = some o → b ∉ frs X.stack → ∃ o', B.get? b = some o') (b2 : ∀ b u, H' b = some u → ∃ o, B.get? b = some o)
    (fl5 : Heap.FlyingW B X.stack ea (.ref C) a5 h5) (u5 : s'.heap.UpToSlots h5) : H' ea = none ∧ Inv X pins σ (upd H' ea (xcO ea C)) { s' with heap := h5 } := by
  have nex : ∀ b : Addr, b ∉ ([] : List Addr) := fun b z => by cases z
  have hea : H' ea = none := by
    cases q : H' ea with
    | none => rfl
    | some u => obtain ⟨o, ho⟩ := b2 ea u q; rw [fl.2.1] at ho; cases ho
  have fr : ∀ b o, s'.heap.get? b = some o → b ∈ frs X.stack → ∃ sl, h5.get? b = some { o with slots := sl } := fun b o q hb => by
    obtain ⟨_, o', ho', hd⟩ := fl.2.2.1.mem hb
    rw [q] at ho'; cases ho'
    exact u5 b o q hd
  have nea : ∀ b o, s.heap.get? b = some o → b ≠ ea := fun b o q z => by
    subst z
    by_cases hb : b ∈ frs X.stack
    · obtain ⟨_, o', ho', hd⟩ := fl.2.2.1.mem hb
      obtain ⟨oe, ws, he, _, hdat⟩ := fly_obj fl
      rw [he] at ho'; cases ho'
      exact hd _ hdat
    · obtain ⟨o', ho⟩ := b1 b o q hb
      rw [fl.2.1] at ho; cases ho
  refine ⟨hea, I.call' (s' := { s' with heap := h5 }) (ch := []) os ⟨fun b o q n hb _ => ?_, fun b o q n hb _ => ?_, fun b o q n _ => ?_, fun b o q _ => ?_, fun b xs q => ?_, fun b o u q => ?_, fun b ps q => ?_⟩ ?_ bare fun b z => absurd z (nex b)⟩
  · have e2 := un.keep b o q n hb (nex b)
    obtain ⟨o', e3⟩ := b1 b o q hb
    have e4 := fl.1 b o' e3
    rw [e2] at e4; cases e4
    exact fl5.1 b _ e3
  · obtain ⟨sl1, e2⟩ := un.slot b _ q n hb (nex b)
    obtain ⟨sl2, e3⟩ := fr b _ e2 hb
    exact ⟨sl2, e3⟩
  · rw [upd_ne (nea b o q)]; exact un.free b o q n (nex b)
  · by_cases hb : b ∈ frs X.stack
    · obtain ⟨o2, e2⟩ := un.there b o q (nex b)
      obtain ⟨sl2, e3⟩ := fr b _ e2 hb
      exact ⟨_, e3⟩
    · obtain ⟨o', e1⟩ := b1 b o q hb
      exact ⟨_, fl5.1 b o' e1⟩
  · have := un.tups b xs q
    rw [upd_ne (ne_of_none this hea)]; exact this
  · have := un.frzs b o u q
    rw [upd_ne (ne_of_none this hea)]; exact this
  · obtain ⟨m2, e2⟩ := un.tbls b _ q
    exact ⟨m2, by rw [upd_ne (ne_of_none e2 hea)]; exact e2⟩
  · have ok5 := hok.by b2 fl.1 fl5.1
    intro b u e
    by_cases hb : b = ea
    · subst hb
      rw [upd_same] at e; cases e
      have x := fly_obj fl5
      obtain ⟨oe, ws, he, r⟩ := id x
      exact ⟨x, ⟨oe, he⟩, fun h1 h2 p k => p.keeps k⟩
    · rw [upd_ne hb] at e
      exact (ok5 b u e).stay (fun _ _ _ q => q) (fun c q => by rw [upd_ne (ne_of_none q hea)]; exact q) fun c xs q => by rw [upd_ne (ne_of_none q hea)]; exact q
theorem caught {s' : Shared} {e : Value} {E : XK} {D : Ends} {i : Nat} {n g : Str} {G : Addr} {b0 : Stmt} {suite : List Stmt} {hpos np : Pos} {th : TS} (I : Inv X pins σ H s) (hst : X.stack = X.env :: X.outer) (hf : X.env.frame = some X.env.locals) (hc : X.calm = true)
    (hN : X.N.Nodup) (hi : X.N[i]? = some n) (hl : X.env.scope.names.lookup n = some .local) (hg : Gl X g) (hm : X.mg g = some (.ref G)) (hs : ∀ ea, PSs (X.suite ea) (b0 :: suite) th) (hdb : (g == ("__debug__" : Str)) = false)
    (hx : CXR X.prog X.w X.stack H s E e s')
    (hE : ∀ C H', E (.ref C) none H' → PySem.W.exmOne X.K (.ref C) (.ref G) = some true ∧ ∀ ea, H' ea = none → th { D with nx := fun σ' H2 => D.nx (σ'.set i none) H2, bk := fun σ' H2 => D.bk (σ'.set i none) H2, ct := fun σ' H2 => D.ct (σ'.set i none) H2 } (σ.set i (some (.ref ea))) (upd H' ea (xcO ea C))) :
    wpAny (model X.prog X.w) X.A (noteFrame e X.env) (fun _ s2 => wpAny (model X.prog X.w) X.A (setFlight e none) (fun _ s3 => wpAny (model X.prog X.w) X.A (handleBy e X.env [.ExceptHandler (some (.Name g np)) (some n) (b0 :: suite) hpos]) (SP X pins D) X.xe s3) X.xe s2) X.xe s' := by
  obtain ⟨ea, C, t, H', B, rfl, os, bare, un, hok, fl, b1, b2, hw⟩ := hx
  obtain ⟨hm1, hth⟩ := hE C H' hw
  have fl0 := fl
  rw [hst] at fl0
  have hh := I.ok.hd hc
  have hk := I.ok.kind
  refine wpAny_looks_onW (hst ▸ I.ok.frames) hf fl0 fun h4 held u4 => ?_
  refine wpAny_landsW held fun h5 fl5 u5 => ?_
  rw [← hst] at fl5
  obtain ⟨hea, I5⟩ := fly_inv I os bare un hok fl b1 b2 fl5 (u4.trans u5)
  refine wpAny_handleBy_cons (codeAny_handlers_test (ld_glob (X := X.suite ea) (I5.suite ea) hg hm ?_ hdb)) (by intro q; cases q)
  refine (PySem.W.exm_one I5.kIn (fly_obj fl5).ty hm1).here ?_
  refine codeAny_handlers_suite_as ?_
  refine lands_againW fl5 fun h6 fl6 u6 => ?_
  obtain ⟨_, I6⟩ := fly_inv I os bare un hok fl b1 b2 fl6 ((u4.trans u5).trans u6)
  refine store_ok (X := X) I6 hN hi (.inl hl) (v := .ref ea) (u := .ref ea) rfl (fun s7 I7 => ?_) (.inr hl)
  refine wpAny_mono (hs ea pins s7 _ _ _ (I7.suite ea) (hth ea hea)) (fun f s8 q8 => ?_) fun _ _ z => False.elim z
  have key : ∀ {σ' : St} {H2 : Hp} {R : Prop}, Inv (X.suite ea) pins σ' H2 s8 → (∀ s9, Inv X pins (σ'.set i none) H2 s9 → SP X pins D f s9) →
      wpAny (model X.prog X.w) X.A (do bindName X.env n .none; unbindBehindTheSuite X.env n hpos) (fun _ s9 => SP X pins D f s9) X.xe s8 := fun {σ' H2 R} J k => by
    have J' := J.unsuite hh
    obtain ⟨m, hn, _⟩ := J'.loc
    refine wpAny_nameGoes_keeps hl hn (by rw [hk]; rfl) fun h' v hn' hsb => k _ (J'.forget hN hi hn hn' hsb)
  cases f with
  | next => obtain ⟨σ', H2, J, q⟩ := q8; exact key (R := True) J fun s9 I9 => ⟨_, H2, I9, q⟩
  | brk => obtain ⟨σ', H2, J, q⟩ := q8; exact key (R := True) J fun s9 I9 => ⟨_, H2, I9, q⟩
  | cont => obtain ⟨σ', H2, J, q⟩ := q8; exact key (R := True) J fun s9 I9 => ⟨_, H2, I9, q⟩
  | ret u => obtain ⟨v, σ', H2, J, r, q⟩ := q8; exact key (R := True) J fun s9 I9 => ⟨v, _, H2, I9, r, q⟩
end
end L2
set_option Elab.async false
set_option linter.all false
set_option maxRecDepth 100000
set_option maxHeartbeats 1000000
namespace L2
open PySem PySem.Spec PyProof.Rows
section
variable {X : Cx} {CX : CXT} {k : Nat} {f : Addr} {fd : FuncData} {ps : List Str} {sp : Sp} {E : XK} {x : Str} {p pos : Pos} {e : Expr} {es : List Expr} {t : TA} {pins : List (Addr × Obj)} {σ : St} {H : Hp} {s : Shared} {Q : VK} {EE : Value → Shared → Prop}
theorem run_fnT {us : List Value} {vs : List V} (F : FnOk X.prog X.w X.K X.mg X.base CX k f fd ps sp) (hr : Room k X.A) (hb : Binds X.K fd ps []) (I : Inv X pins σ H s) (hx : ∀ e s', CX X.stack H s E e s' → EE e s') (r : Vals vs us) (h : sp vs H Q E) :
    wpAny (model X.prog X.w) X.A (call (.ref f) us) (EP X pins σ Q) EE s := by
  have hl : us.length = ps.length := by rw [← r.length]; exact F.len _ _ _ _ h
  have hb2 := hb s us I.kIn (by simpa using hl)
  rw [List.append_nil] at hb2
  refine wpAny_call (codeAny_mono (F.run X.A X.stack s H ⟨us, []⟩ us vs Q E hr I.env0 hb2 r h) fun r s' hq => ?_)
  cases r with
  | error e => exact hx e s' hq
  | ok fl =>
    cases fl with
    | ret u => exact I.after hq
    | next => cases hq
    | brk => cases hq
    | cont => cases hq
theorem call_T (F : FnOk X.prog X.w X.K X.mg X.base CX k f fd ps sp) (hr : Room k X.A) (hg : Gl X x) (hm : X.mg x = some (.ref f)) (hk : PySem.W.keepIn X.K (.ref f) = true) (hb : Binds X.K fd ps []) (ha : PA X.nox (e :: es) t) (hdb : (x == ("__debug__" : Str)) = false)
    (he : starEach (e :: es) X.env = (false, eval e X.env) :: starEach es X.env) (hpl : (backTo pos (starEach es X.env)).any (·.1) = false) (I : Inv X pins σ H s) (h : t σ H fun vs H1 => sp vs H1 Q E) (hx : ∀ H1 s1 e s', Inv X pins σ H1 s1 → CX X.stack H1 s1 E e s' → EE e s') :
    wpAny (model X.prog X.w) X.A (eval (.Call (.Name x p) (e :: es) [] pos) X.env) (EP X pins σ Q) EE s := by
  refine wpAny_Call_Name_kw (ld_glob I hg hm ?_ hdb)
  refine PySem.W.callWith_K (h₀ := X.base) I.ok.mod.kin hk (wpAny_mono (ha pos pins s σ H _ (I.wish _) h) (fun us s1 hm0 => ?_) fun _ _ z => False.elim z) he hpl
  obtain ⟨vs, H1, I1, r, q⟩ := hm0
  have J : Inv X pins σ H1 s1 := I1.unwish
  exact ⟨J.kIn, run_fnT F hr hb J (fun e s' z => hx H1 s1 e s' J z) r q⟩
end
def exTry (K : PySem.W.Frag) (G : Addr) (th : TS) (i : Nat) (D : Ends) (σ : St) : XK := fun c _ H' => ∃ C, c = .ref C ∧ PySem.W.exmOne K (.ref C) (.ref G) = some true ∧ ∀ ea, H' ea = none →
  th { D with nx := fun σ' H2 => D.nx (σ'.set i none) H2, bk := fun σ' H2 => D.bk (σ'.set i none) H2, ct := fun σ' H2 => D.ct (σ'.set i none) H2 } (σ.set i (some (.ref ea))) (upd H' ea (xcO ea C))
def tTryE (K : PySem.W.Frag) (G : Addr) (sp : Sp) (t : TA) (th : TS) (i : Nat) : TS := fun D σ H => t σ H fun vs H1 => sp vs H1 (fun _ H2 => D.nx σ H2) (exTry K G th i D σ)
section
variable {X : Cx} {x y g n : Str} {i j m k : Nat} {ps : List Str} {sp : Sp} {p py pos epos np hpos tpos : Pos} {e : Expr} {es : List Expr} {t : TA} {th : TS} {G : Addr} {b0 : Stmt} {suite : List Stmt}
theorem ps_tryE (D : DnX X.prog X.w X.K X.mg X.base x m ps sp) (hr : Room k X.A) (ha : PA X.nox (e :: es) t) (hmg : X.mg g = some (.ref G)) (hs : ∀ ea, PSs (X.suite ea) (b0 :: suite) th) (hN : X.N.Nodup) (hi : X.N[i]? = some n) (hl : X.env.scope.names.lookup n = some .local)
    (hk : m ≤ k := by decide) (hc : X.calm = true := by rfl) (hst : X.stack = X.env :: X.outer := by rfl) (hf : X.env.frame = some X.env.locals := by rfl) (hg : Gl X x := by rfl) (hgg : Gl X g := by rfl)
    (hdb : (x == ("__debug__" : Str)) = false := by decide) (hdg : (g == ("__debug__" : Str)) = false := by decide) (he : starEach (e :: es) X.env = (false, eval e X.env) :: starEach es X.env := by rfl) (hpl : (backTo pos (starEach es X.env)).any (·.1) = false := by rfl)
    (hsw : swapsWith (.Call (.Name x p) (e :: es) [] pos) none epos.line X.env = pure false := by rfl) :
    PS X (.Try [.Expr (.Call (.Name x p) (e :: es) [] pos) epos] [.ExceptHandler (some (.Name g np)) (some n) (b0 :: suite) hpos] [] [] tpos) (tTryE X.K G sp t th i) := by
  intro pins s σ H D0 I h
  obtain ⟨f, fd, F, hm, kp, hb⟩ := D.ex
  refine wpAny_Try_except (wpAny_execs_cons ?_)
  refine wpAny_Expr_any (thn (call_T F (hr.mono hk) hg hm kp hb ha hdb he hpl I h (fun H1 s1 e s' J z => ?_)) fun v s1 ⟨u, H1, I1, r1, q1⟩ => ?_) I.quiet hsw
  · exact caught (D := D0) J hst hf hc hN hi hl hgg hmg hs hdg z fun C H' ⟨C', e1, q1, q2⟩ => by cases e1; exact ⟨q1, q2⟩
  · exact wpAny_execs_nil (wpAny_execs_nil ⟨σ, H1, I1, q1⟩)
end
end L2
set_option Elab.async false
set_option linter.all false
set_option maxRecDepth 100000
set_option maxHeartbeats 1000000
namespace L2
open PySem PySem.Spec PyProof.Rows
def clK (K : PySem.W.Frag) (x : Str) : Addr := match PySem.W.nsIn K mainGlobals x with
  | some (some (.ref C)) => C
  | _ => 0
def xcB (K : PySem.W.Frag) (C : Addr) : Bool :=
  PySem.W.findIn K (.ref C) "__getattribute__" == some (some (.builtin "BaseException.__getattribute__")) && PySem.W.findIn K (.ref C) "__getattr__" == some none &&
  PySem.W.findIn K (.ref C) "__class__" == some (some (.builtin "object.__class__")) && PySem.W.specialIn K (.builtin "object.__class__") "__get__" == some (some (.builtin "getset_descriptor.__get__")) &&
  PySem.W.takesIn K (.builtin "object.__class__") == some true && PySem.W.mroIn K C (.type "object") == some true && PySem.W.mroIn K C (.type "BaseException") == some true && (PySem.W.clsIn K C).isSome
def xcFacts (K : PySem.W.Frag) (top : Str) (rs ns : List Str) : Bool :=
  (PySem.W.nsIn K mainGlobals top == some (some (.ref (clK K top)))) &&
  (ns.all fun y => PySem.W.nsIn K mainGlobals y == some (some (.ref (clK K y)))) &&
  rs.all fun x => (PySem.W.nsIn K mainGlobals x == some (some (.ref (clK K x)))) && xcB K (clK K x) && PySem.W.excIn K (clK K x) bmV "ValueError.__new__" &&
    (PySem.W.exmOne K (.ref (clK K x)) (.ref (clK K top)) == some true) && (PySem.W.kitOne K (.ref (clK K x)) (.type "ValueError") == some true) &&
    ns.all fun y => PySem.W.kitOne K (.ref (clK K x)) (.ref (clK K y)) == some (decide (x = y))
structure XT (K : PySem.W.Frag) (mg : Str → Option Value) (top : Str) (rs ns : List Str) : Prop where
  m : ∀ x, (x = top ∨ x ∈ rs ∨ x ∈ ns) → mg x = some (.ref (clK K x))
  exc : ∀ x ∈ rs, PySem.W.excIn K (clK K x) bmV "ValueError.__new__" = true
  k : ∀ x ∈ rs, XcK K (clK K x)
  hit : ∀ x ∈ rs, PySem.W.exmOne K (.ref (clK K x)) (.ref (clK K top)) = some true
  val : ∀ x ∈ rs, PySem.W.kitOne K (.ref (clK K x)) (.type "ValueError") = some true
  one : ∀ x ∈ rs, ∀ y ∈ ns, PySem.W.kitOne K (.ref (clK K x)) (.ref (clK K y)) = some (decide (x = y))
theorem xt_of {K : PySem.W.Frag} {h : Heap} {mg : Str → Option Value} {top : Str} {rs ns : List Str} (X : K.In h) (G : h.Ns mainGlobals mg) (e : xcFacts K top rs ns = true) : XT K mg top rs ns := by
  unfold xcFacts at e
  simp only [Bool.and_eq_true, List.all_eq_true, beq_iff_eq] at e
  obtain ⟨⟨e1, e2⟩, e3⟩ := e
  refine ⟨fun x hx => ?_, fun x hx => (e3 x hx).1.1.1.2, fun x hx => ?_, fun x hx => (e3 x hx).1.1.2, fun x hx => (e3 x hx).1.2, fun x hx y hy => (e3 x hx).2 y hy⟩
  · rcases hx with rfl | hx | hx
    · exact PySem.W.mg_of X G e1
    · exact PySem.W.mg_of X G (e3 x hx).1.1.1.1.1
    · exact PySem.W.mg_of X G (e2 x hx)
  · have z := (e3 x hx).1.1.1.1.2
    unfold xcB at z
    simp only [Bool.and_eq_true, beq_iff_eq] at z
    obtain ⟨⟨⟨⟨⟨⟨⟨z1, z2⟩, z3⟩, z4⟩, z5⟩, z6⟩, z7⟩, z8⟩ := z
    exact ⟨z1, z2, z3, z4, z5, z6, z7, z8⟩
theorem boot_VE : bootBuiltins "ValueError" = some (.type "ValueError") := by decide +kernel
section
variable {X : Cx}
theorem call_isiE : CallR X (.builtin "isinstance") (fun xs H Q => ∃ e C D b, xs = [.ref e, .ref D] ∧ H e = some (xcO e C) ∧ XcK X.K C ∧ PySem.W.kitOne X.K (.ref C) (.ref D) = some b ∧ Q (.bl b) H) := by
  intro pins s σ H xs us Q I r h
  obtain ⟨e, C, D, b, rfl, he, hk, hb, q⟩ := h
  obtain ⟨u, c, rfl, ru, rc⟩ := r.two
  cases (show u = Value.ref e from ru)
  cases (show c = Value.ref D from rc)
  exact PySem.W.kia_one (kitx_exc hk) I.kIn (I.hok e _ he).1 hb (by intro z; cases z) fun tk => ⟨.bl b, H, I.tok _, rfl, q⟩
theorem call_isiV {T : String} : CallR X (.builtin "isinstance") (fun xs H Q => ∃ e C b, xs = [.ref e, .ty T] ∧ H e = some (xcO e C) ∧ XcK X.K C ∧ PySem.W.kitOne X.K (.ref C) (.type T) = some b ∧ Q (.bl b) H) := by
  intro pins s σ H xs us Q I r h
  obtain ⟨e, C, b, rfl, he, hk, hb, q⟩ := h
  obtain ⟨u, c, rfl, ru, rc⟩ := r.two
  cases (show u = Value.ref e from ru)
  cases (show c = Value.type T from rc)
  exact PySem.W.kia_one (kitx_exc hk) I.kIn (I.hok e _ he).1 hb (by intro z; cases z) fun tk => ⟨.bl b, H, I.tok _, rfl, q⟩
end
end L2
set_option Elab.async false
set_option linter.all false
set_option maxRecDepth 100000
set_option maxHeartbeats 1000000
namespace L2
open PySem PySem.Spec PyProof.Rows
section
variable {X : Cx}
end
end L2
set_option Elab.async false
set_option linter.all false
set_option maxRecDepth 100000
set_option maxHeartbeats 1000000
namespace L2
open PySem PySem.Spec PyProof.Rows
end L2
set_option Elab.async false
set_option linter.all false
set_option maxRecDepth 100000
set_option maxHeartbeats 1000000
namespace L2
open PySem PySem.Spec PyProof.Rows
section
variable {X : Cx}
end
end L2
set_option Elab.async false
set_option linter.all false
set_option maxRecDepth 100000
set_option maxHeartbeats 1000000
namespace L2
open PySem PySem.Spec PyProof.Rows
section
variable {X : Cx}
end
end L2
set_option Elab.async false
set_option linter.all false
set_option maxRecDepth 100000
set_option maxHeartbeats 1000000
namespace L2
open PySem PySem.Spec PyProof.Rows
section
variable {X : Cx} {pins : List (Addr × Obj)} {σ : St} {H : Hp} {s : Shared}
end
end L2
set_option Elab.async false
set_option linter.all false
set_option maxRecDepth 100000
set_option maxHeartbeats 1000000
namespace L2
open PySem PySem.Spec PyProof.Rows
end L2
set_option Elab.async false
set_option linter.all false
namespace L2
open PySem PyProof.Rows
section
variable {prog : Program} {w : World} {A : Around} {E : Value → Shared → Prop} {s : Shared}
end
end L2
set_option Elab.async false
set_option linter.all false
namespace L2
open PySem PyProof.Rows
section
variable {prog : Program} {w : World} {A : Around} {E : Value → Shared → Prop} {s : Shared}
end
end L2
set_option Elab.async false
set_option linter.all false
namespace L2
open PySem PyProof.Rows
section
variable {prog : Program} {w : World} {A : Around} {E : Value → Shared → Prop} {s : Shared}
end
end L2
set_option Elab.async false
set_option linter.all false
namespace L2
open PySem PyProof.Rows
section
variable {a₀ : Array Keyed} {pd : Array (Nat × Nat × Nat)} {st : SortSt}
variable {prog : Program} {w : World} {A : Around} {E : Value → Shared → Prop} {s : Shared}
end
end L2
set_option Elab.async false
set_option linter.all false
namespace L2
open PySem PyProof.Rows
section
variable {prog : Program} {w : World} {A : Around} {E : Value → Shared → Prop} {s : Shared} {a₀ : Array Keyed} {pd : Array (Nat × Nat × Nat)} {st : SortSt}
end
end L2
set_option Elab.async false
set_option linter.all false
namespace L2
open PySem PyProof.Rows
section
variable {prog : Program} {w : World} {A : Around} {E : Value → Shared → Prop} {s : Shared} {a₀ : Array Keyed} {st : SortSt}
end
end L2
set_option Elab.async false
set_option linter.all false
set_option maxRecDepth 100000
set_option maxHeartbeats 1000000
namespace L2
open PySem PySem.Spec PyProof.Rows
section
variable {prog : Program} {w : World} {A : Around} {E : Value → Shared → Prop} {s : Shared}
end
section
variable {X : Cx}
end
end L2
set_option Elab.async false
set_option linter.all false
set_option maxRecDepth 100000
set_option maxHeartbeats 1000000
namespace L2
open PySem PySem.Spec PyProof.Rows
section
variable {P : Program} {w : World} {K : PySem.W.Frag} {mg : Str → Option Value} {base : Heap}
end
end L2
set_option Elab.async false
set_option linter.all false
set_option maxRecDepth 100000
set_option maxHeartbeats 1000000
namespace L2
open PySem PySem.Spec PyProof.Rows
end L2
set_option Elab.async false
set_option linter.all false
set_option maxRecDepth 100000
set_option maxHeartbeats 1000000
namespace L2
open PySem PySem.Spec PyProof.Rows
section
variable {X : Cx}
end
end L2
set_option Elab.async false
set_option linter.all false
set_option maxRecDepth 100000
set_option maxHeartbeats 1000000
namespace L2
open PySem PySem.Spec PyProof.Rows
structure ClsAt (K : PySem.W.Frag) (mg : Str → Option Value) (x : Str) (C : Addr) (fs : List Str) : Prop where
  cl : Cls K C
  mgC : mg x = some (.ref C)
  na : ∀ f ∈ fs, NoAttr K C f
structure MeAt (K : PySem.W.Frag) (C : Addr) (m qual : Str) (st : Stmt) (ps : List Str) : Prop where
  ex : ∃ f fd, Fun K m qual st f fd ∧ Meth K C m f ∧ Binds K fd ps []
structure MkAt (K : PySem.W.Frag) (C : Addr) (qual : Str) (st : Stmt) (ps : List Str) : Prop where
  ex : ∃ f fd, Fun K "__init__" qual st f fd ∧ Mk K C f ∧ Binds K fd ps []
structure DnK (P : Program) (w : World) (K : PySem.W.Frag) (mg : Str → Option Value) (base : Heap) (C : Addr) (n : Nat) (ps : List Str) (sp : Sp) : Prop where
  ex : ∃ f fd, FnOk P w K mg base CX0 n f fd ps sp ∧ Mk K C f ∧ Binds K fd ps []
section
variable {P : Program} {w : World} {K : PySem.W.Frag} {mg : Str → Option Value} {base : Heap}
theorem MkAt.ok {C : Addr} {qual : Str} {st : Stmt} {N ps : List Str} {k : Nat} {sp : Sp} (F : MkAt K C qual st ps) (S : FnScope N ps (defScope st)) (len : ∀ vs H Q E, sp vs H Q E → vs.length = ps.length)
    (hbody : ∀ (f : Addr) (cdv : Value) (A : Around) (outer : List Env) (s : Shared) (H : Hp) (vs : List V) (Q : VK) (E : XK), Room k (A.deeper (envOfC qual (defScope st) s.heap.objs.size f cdv)) → sp vs H Q E →
      ∃ t, PSs (cxOf CX0 P w K mg base N qual (defScope st) f cdv A outer s H E).nox (defBody st) t ∧ t { nx := fun _ H' => Q .non H', rt := Q } (start N vs) H) : DnK P w K mg base C (k + 1) ps sp := by
  obtain ⟨f, fd, F, hm, hb⟩ := F.ex
  exact ⟨f, fd, F.ok S len fun cdv A outer s H vs Q E => hbody f cdv A outer s H vs Q E, hm, hb⟩
end
section
variable {X : Cx}
theorem pe_dnK {C : Addr} {x : Str} {fs : List Str} {n k : Nat} {ps : List Str} {sp : Sp} {e : Expr} {es : List Expr} {t : TA} {p pos : Pos} (CL : ClsAt X.K X.mg x C fs) (D : DnK X.prog X.w X.K X.mg X.base C n ps sp) (hr : Room k X.A) (ha : PA X (e :: es) t) (hk : n + 1 ≤ k := by decide) (hg : Gl X x := by rfl)
    (hdb : (x == ("__debug__" : Str)) = false := by decide) (he : starEach (e :: es) X.env = (false, eval e X.env) :: starEach es X.env := by rfl) (hpl : (backTo pos (starEach es X.env)).any (·.1) = false := by rfl) :
    PE X (.Call (.Name x p) (e :: es) [] pos) (tMake C sp [] E0 t) := by
  obtain ⟨f, fd, F, hm, hb⟩ := D.ex
  exact pe_make hm F (hr.mono hk) hg CL.mgC hb .nil pass0 ha hdb he hpl
theorem pe_fldK {K : PySem.W.Frag} {e : Expr} {f : Str} {pos : Pos} {ta : TE} (hK : X.K = K) (he : PE X e ta) (hb : attributeBase e f X.env (eval e X.env) = eval e X.env) : PE X (.Attribute e f pos) (tFld K ta f) := by
  subst hK; exact pe_fld he hb
theorem ps_fldK {K : PySem.W.Frag} {o value : Expr} {f : Str} {pos pos' : Pos} {ta tv : TE} (hK : X.K = K) (ha : PE X o ta) (hv : PE X value tv) (hs : swapsWith value (some (.Attribute o f pos')) pos.line X.env = pure false) : PS X (.Assign [.Attribute o f pos'] value pos) (sFld K ta tv f) := by
  subst hK; exact ps_fld ha hv hs
end
end L2
set_option Elab.async false
set_option linter.all false
set_option maxRecDepth 100000
set_option maxHeartbeats 1000000
namespace L2
open PySem PySem.Spec PyProof.Rows
section
variable {H H' : Hp} {a b c : Addr}
end
end L2
set_option Elab.async false
set_option linter.all false
namespace L2
open PySem PySem.Spec PyProof.Rows
section
variable {K : PySem.W.Frag} {i j : Nat} {σ : St} {H : Hp} {Q : VK} {a b C dx : Addr} {xs ys : List V} {z c : Int} {v u : V} {f : Str} {fs : List (Str × V)}
end
end L2
set_option linter.all false
namespace L2
end L2
set_option Elab.async false
set_option linter.all false
set_option maxRecDepth 100000
set_option maxHeartbeats 1000000
namespace L2
open PySem PySem.W PySem.Spec PyProof.Rows
section
variable {k : Nat → Int} {n : Nat} {cmp : Nat → Nat → (Bool → Shared → Prop) → Shared → Prop} {s : Shared}
end
end L2
set_option Elab.async false
set_option linter.all false
set_option maxRecDepth 100000
set_option maxHeartbeats 1000000
namespace L2
open PySem PySem.Spec PyProof.Rows
section
variable {prog : Program} {w : World} {A : Around} {E : Value → Shared → Prop} {s : Shared}
end
section
variable {X : Cx}
end
end L2
set_option Elab.async false
set_option linter.all false
set_option maxRecDepth 100000
set_option maxHeartbeats 1000000
namespace L2
open PySem PySem.Spec PyProof.Rows
section
variable {X : Cx} {elt tg iter : Expr} {ifs : List Expr} {scope : Scope} {pos : Pos} {wi : TI} {tt : TTg} {tc : TT} {te : TE}
end
end L2
set_option linter.all false
namespace L2
open PySem
section
variable {P : List Value → Prop}
theorem argS {n : Nat} (h : ∀ a (us : List Value), us.length = n → P (a :: us)) (us : List Value) (e : us.length = n + 1) : P us := by
  cases us with
  | nil => exact absurd e (Nat.succ_ne_zero n).symm
  | cons a us => exact h a us (Nat.succ.inj e)
theorem arg0 (h : P []) (us : List Value) (e : us.length = 0) : P us := by
  rw [List.length_eq_zero_iff.mp e]; exact h
theorem arg1 (h : ∀ a, P [a]) : ∀ us : List Value, us.length = 1 → P us := argS fun a => arg0 (h a)
theorem arg2 (h : ∀ a b, P [a, b]) : ∀ us : List Value, us.length = 2 → P us := argS fun a => arg1 (P := fun us => P (a :: us)) (h a)
theorem arg3 (h : ∀ a b c, P [a, b, c]) : ∀ us : List Value, us.length = 3 → P us := argS fun a => arg2 (P := fun us => P (a :: us)) (h a)
theorem arg4 (h : ∀ a b c d, P [a, b, c, d]) : ∀ us : List Value, us.length = 4 → P us := argS fun a => arg3 (P := fun us => P (a :: us)) (h a)
theorem arg5 (h : ∀ a b c d e, P [a, b, c, d, e]) : ∀ us : List Value, us.length = 5 → P us := argS fun a => arg4 (P := fun us => P (a :: us)) (h a)
end
end L2
set_option Elab.async false
set_option linter.all false
set_option maxRecDepth 100000
set_option maxHeartbeats 1000000
namespace L2
open PySem PySem.Spec PyProof.Rows
theorem vals_bls : ∀ {bs : List Bool} {us : List Value}, Vals (bs.map V.bl) us → us = bs.map Value.bool
  | [], _, .nil => rfl
  | b :: r, _, .cons h q => by cases h; rw [vals_bls q]; rfl
theorem range_any (bs : List Bool) : (List.range bs.length).any (fun i => bs.getD i false) = bs.any id := by
  rw [Bool.eq_iff_iff, List.any_eq_true, List.any_eq_true]
  constructor
  · rintro ⟨i, hi, h⟩
    have hl : i < bs.length := by simpa using hi
    exact ⟨bs[i], List.getElem_mem _, by simpa [hl] using h⟩
  · rintro ⟨b, hb, h⟩
    obtain ⟨i, hi, e⟩ := List.getElem_of_mem hb
    exact ⟨i, by simpa using hi, by simpa [hi, e] using h⟩
section
variable {X : Cx}
theorem call_anyL (hc : X.calm = true) : CallR X (.builtin "any") (fun xs H Q => ∃ (a : Addr) (bs : List Bool), xs = [.ref a] ∧ SqL X.K H a (bs.map V.bl) ∧ Q (.bl (bs.any id)) H) := by
  intro pins s σ H xs us Q I r h
  obtain ⟨a, bs, rfl, ha, q⟩ := h
  obtain ⟨u, rfl, ru⟩ := vals1 r
  cases ru
  obtain ⟨its, rv, pl, hz⟩ := I.list ha
  have ei := vals_bls rv
  subst ei
  have hal : a < s.heap.objs.size := by
    obtain ⟨o, h1, _⟩ := pl.isList
    exact Heap.lt_size h1
  refine call_any_walk (wpAny_pyIter_list pl.isList ⟨s.heap.objs.size, _, _, _, _, _, fun i => bs.getD i false, rfl, Walks.list (A := X.A.in1) (I.ok.hd hc) s.heap.objs.size a (Nat.ne_of_lt hal) (bs.map Value.bool).toArray, ⟨⟨_, Heap.get?_push_size _ rfl, rfl, rfl⟩, ?_⟩, fun i v s' Q' E' hv hq => ?_, fun h' tk k => ?_⟩)
  · obtain ⟨o, h1, h2⟩ := pl.isList
    exact ⟨o, Heap.get?_push_of_some _ h1, h2⟩
  · have hv' : (bs.map Value.bool)[i]? = some v := by simpa using hv
    rw [List.getElem?_map] at hv'
    cases e : bs[i]? with
    | none => rw [e] at hv'; cases hv'
    | some b =>
      rw [e] at hv'; cases hv'
      refine wpAny_truthy_bool ?_
      have : bs.getD i false = b := by rw [List.getD_eq_getElem?_getD, e]; rfl
      have hq' : Q' (bs.getD i false) s' := hq
      rw [this] at hq'
      exact hq'
  · have e : (List.range (bs.map Value.bool).toArray.size).any (fun i => bs.getD i false) = bs.any id := by
      rw [← range_any bs]; simp
    rw [e]
    refine ⟨.bl (bs.any id), H, I.kept (t' := tk) fun b o hb => ?_, rfl, q⟩
    exact k b o (by rw [List.mem_singleton]; exact Nat.ne_of_lt (Heap.lt_size hb)) (Heap.get?_push_of_some _ hb)
end
section
variable {X : Cx}
end
end L2
set_option Elab.async false
set_option linter.all false
set_option maxRecDepth 100000
set_option maxHeartbeats 1000000
namespace L2
open PySem PySem.Spec PyProof.Rows
abbrev K0 : PySem.W.Frag := []
theorem SqL.k0 {K : PySem.W.Frag} {H : Hp} {a : Addr} {xs : List V} (h : SqL K0 H a xs) : SqL K H a xs := by
  rcases h with h | ⟨o, _, _, hk, _⟩
  · exact .inl h
  · cases hk
section
variable {X : Cx}
theorem Itl.le (a : Addr) {K : PySem.W.Frag} : (∀ i H, (Itl K0 a).go i H → (Itl K a).go i H) ∧ (∀ i H x H', (Itl K a).yld i H x H' → (Itl K0 a).yld i H x H') ∧ ∀ i H, (Itl K0 a).stop i H → (Itl K a).stop i H :=
  ⟨fun i H ⟨xs, x, h1, h2⟩ => ⟨xs, x, h1.k0, h2⟩, fun i H x H' ⟨e, h⟩ => ⟨e, fun xs hx => h xs hx.k0⟩, fun i H ⟨xs, h1, h2⟩ => ⟨xs, h1.k0, h2⟩⟩
theorem Turn.le {P : Program} {w : World} {K : PySem.W.Frag} {tg : Expr} {J J' : It} {fp : List Addr} {it : Addr} {tn : Nat → Heap → Prop} (t : Turn P w K tg J fp it tn) (h : (∀ i H, J'.go i H → J.go i H) ∧ (∀ i H x H', J.yld i H x H' → J'.yld i H x H') ∧ ∀ i H, J'.stop i H → J.stop i H) : Turn P w K tg J' fp it tn where
  mem := t.mem
  obj := t.obj
  keep := t.keep
  item := fun X e1 e2 e3 e4 i pins s σ H E I hf ht hg => by
    refine wpAny_mono (t.item X e1 e2 e3 e4 i pins s σ H E I hf ht (h.1 i H hg)) (fun r s1 hm0 => ?_) fun _ _ z => z
    obtain ⟨u, e, q⟩ := hm0
    refine ⟨u, e, ?_⟩
    refine wpAny_mono q (fun _ s2 hm0 => ?_) fun _ _ z => z
    obtain ⟨x, H', I', r', y, z⟩ := hm0
    exact ⟨x, H', I', r', h.2.1 i H x H' y, z⟩
  done := fun X e1 e2 e3 e4 i pins s σ H E I hf ht hg => t.done X e1 e2 e3 e4 i pins s σ H E I hf ht (h.2.2 i H hg)
  self := t.self
theorem PIE.le {pins : List (Addr × Obj)} {σ : St} {tg : Expr} {R R' : It → Hp → Prop} {v : Value} {s : Shared} (h : PIE X pins σ tg R' v s) (f : ∀ J H, R' J H → ∃ J', ((∀ i H, J'.go i H → J.go i H) ∧ (∀ i H x H', J.yld i H x H' → J'.yld i H x H') ∧ ∀ i H, J'.stop i H → J.stop i H) ∧ R J' H) : PIE X pins σ tg R v s := by
  obtain ⟨it, fp, tn, J, H', e, I, t, z, g, r⟩ := h
  obtain ⟨J', l, r'⟩ := f J H' r
  exact ⟨it, fp, tn, J', H', e, I, t.le l, z, g, r'⟩
theorem PE.wish {e : Expr} {t : TE} (h : PE X e t) (Q0 : V → Hp → Prop) : PE X e (fun σ H Q => t σ H Q0 ∧ ∀ x H1, Q0 x H1 → Q x H1) := fun pins s σ H Q I ⟨h1, h2⟩ => wpAny_mono (h pins s σ H Q0 I h1) (fun _ _ ⟨x, H1, I1, r1, q1⟩ => ⟨x, H1, I1, r1, h2 x H1 q1⟩) fun _ _ z => z
theorem pi_list0 {tg l : Expr} {tl : TE} (hl : PE X l tl) : PI X tg l (iList K0 tl) := fun pins s σ H R I h =>
  wpAny_mono (pi_list (hl.wish (fun x H1 => ∃ a, x = .ref a ∧ (∃ xs, SqL K0 H1 a xs) ∧ R (Itl K0 a) H1)) pins s σ H (fun J H' => ∃ a, J = Itl X.K a ∧ R (Itl K0 a) H') I ⟨h, fun x H1 ⟨a, e, ⟨xs, hx⟩, r⟩ => ⟨a, e, ⟨xs, hx.k0⟩, a, rfl, r⟩⟩)
    (fun _ _ q => wpAny_mono q (fun _ _ p => p.le fun J H' ⟨a, e, r⟩ => ⟨Itl K0 a, by subst e; exact Itl.le a, r⟩) fun _ _ z => z) fun _ _ z => z
end
end L2
set_option linter.all false
namespace L2
open PySem PySem.Spec PyProof.Rows
end L2
set_option Elab.async false
set_option linter.all false
set_option maxHeartbeats 4000000
namespace L2
open PySem
section
variable {X : Cx} {pins : List (Addr × Obj)} {σ : St} {H : Hp} {s : Shared} {a : Addr} {kvs : List (Key × V)} {k : Key} {u : Value} {A : Around} {E : Value → Shared → Prop}
end
section
variable {X : Cx} {o e f : Expr} {apos cpos : Pos} {td ty tx : TE}
end
end L2
set_option Elab.async false
set_option linter.all false
set_option maxRecDepth 100000
set_option maxHeartbeats 4000000
namespace L2
open PySem PySem.Spec PyProof.Rows
section
variable {X : Cx}
end
end L2
set_option Elab.async false
set_option linter.all false
set_option maxRecDepth 100000
set_option maxHeartbeats 4000000
namespace L2
open PySem PySem.Spec PyProof.Rows
section
variable {X : Cx}
end
end L2
set_option Elab.async false
set_option linter.all false
set_option maxRecDepth 100000
set_option maxHeartbeats 4000000
namespace L2
open PySem PySem.Spec PyProof.Rows
section
variable {X : Cx} {o i : Expr} {pos : Pos} {td ty : TE}
end
end L2
set_option Elab.async false
set_option linter.all false
set_option maxRecDepth 100000
set_option maxHeartbeats 4000000
namespace L2
open PySem PySem.Spec PyProof.Rows
section
variable {X : Cx} {elt tg iter : Expr} {ifs : List Expr} {scope : Scope} {pos : Pos} {N : List Str} {k : Nat} {cap : List Nat} {wi : TI} {tt : TTg} {tc : TT} {te : TE}
end
section
variable {X : Cx} {elt tg iter : Expr} {ifs : List Expr} {scope : Scope} {pos : Pos} {wi : TI} {tt : TTg} {tc : TT} {te : TE}
end
section
variable {X : Cx} {elt tg iter : Expr} {ifs : List Expr} {scope : Scope} {pos : Pos} {wi : TI} {tt : TTg} {tc : TT} {te : TE}
theorem relabel_cf {sc : Scope} {env : Env} {x : Str} (h : sc.names.lookup x = some .cell ∨ sc.names.lookup x = some .free) : (relabel sc env).names.lookup x = some .cell ∨ (relabel sc env).names.lookup x = some .free := by
  rcases h with h | h
  · left
    have go : ∀ (names : List (Str × NameKind)), names.lookup x = some .cell → (names.map fun (n, k) => if (k == NameKind.free && env.scope.kind == .function && env.kindOf n == some .cell) then (n, NameKind.cell) else (n, k)).lookup x = some .cell := by
      intro names
      induction names with
      | nil => intro h; simp at h
      | cons z r ih =>
        obtain ⟨n, k⟩ := z
        intro h
        show List.lookup x ((if (k == NameKind.free && env.scope.kind == .function && env.kindOf n == some .cell) = true then (n, NameKind.cell) else (n, k)) :: _) = _
        cases hx : x == n with
        | true =>
          simp only [List.lookup_cons, hx] at h
          cases h
          split <;> simp [List.lookup_cons, hx]
        | false =>
          simp only [List.lookup_cons, hx] at h
          split <;> (simp only [List.lookup_cons, hx]; exact ih h)
    exact go _ h
  · exact relabel_free h
theorem CompOk.relabel {scope psc : Scope} {N PN : List Str} {k : Nat} {cap : List Nat} {env : Env} (h : CompOk scope psc N PN k cap) : CompOk scope (relabel psc env) N PN k cap :=
  ⟨h.kind, h.len, h.cell, h.loc, fun y hy hf => relabel_cf (h.free y hy hf), h.cap, h.free2⟩
theorem pe_lcN2 {psc : Scope} {env0 : Env} (PN N : List Str) (k : Nat) (cap : List Nat) (hi : PI X tg iter wi) (hg : ∀ cl C s H ex pn, PTg (compCx X scope N cl C s H ex pn) k tg tt) (ht : ∀ cl C s H ex pn, PTs (compCx X scope N cl C s H ex pn) ifs tc)
    (he : ∀ cl C s H ex pn, PE (compCx X scope N cl C s H ex pn) elt te) (hc : X.calm = true := by rfl) (h2 : X.N = PN := by rfl) (h1 : X.env.scope = PySem.relabel psc env0 := by rfl) (S : compOkB scope psc N PN k cap = true := by decide +kernel)
    (hs : ∀ x, foldedSetIterable iter X.env x = pure x := by intro _; rfl) :
    PE X (.ListComp elt [⟨tg, iter, ifs, 0⟩] scope pos) (tComp wi tt tc te cap) := pe_comp hc (by rw [h2, h1]; exact (compOk_of S).relabel) hi hg ht he hs
end
end L2
set_option Elab.async false
set_option linter.all false
set_option maxRecDepth 100000
set_option maxHeartbeats 4000000
namespace L2
open PySem PySem.Spec PyProof.Rows
end L2
set_option Elab.async false
set_option linter.all false
set_option maxRecDepth 100000
set_option maxHeartbeats 4000000
namespace L2
open PySem PySem.Spec PyProof.Rows
end L2
set_option Elab.async false
set_option linter.all false
set_option maxRecDepth 100000
set_option maxHeartbeats 4000000
namespace L2
open PySem PySem.Spec PyProof.Rows
section
variable {X : Cx}
end
end L2
set_option Elab.async false
set_option linter.all false
set_option maxRecDepth 100000
set_option maxHeartbeats 4000000
namespace L2
open PySem PySem.Spec PyProof.Rows
end L2
set_option Elab.async false
set_option linter.all false
set_option maxRecDepth 100000
set_option maxHeartbeats 4000000
namespace L2
open PySem PySem.Spec PyProof.Rows
end L2
set_option Elab.async false
set_option linter.all false
set_option maxRecDepth 100000
set_option maxHeartbeats 4000000
namespace L2
open PySem PySem.Spec PyProof.Rows
end L2
set_option Elab.async false
set_option linter.all false
set_option maxRecDepth 100000
set_option maxHeartbeats 4000000
namespace L2
open PySem PySem.Spec PyProof.Rows
section
variable {P : Program} {w : World} {A : Around} {E : Value → Shared → Prop} {s : Shared}
end
end L2
set_option Elab.async false
set_option linter.all false
set_option maxRecDepth 100000
set_option maxHeartbeats 4000000
namespace L2
open PySem PySem.Spec PyProof.Rows
section
variable {X : Cx} {K : PySem.W.Frag}
end
end L2
set_option Elab.async false
set_option linter.all false
set_option maxRecDepth 100000
set_option maxHeartbeats 4000000
namespace L2
open PySem PySem.Spec PyProof.Rows
end L2
set_option Elab.async false
set_option linter.all false
set_option maxRecDepth 100000
set_option maxHeartbeats 1000000
namespace L2
open PySem PySem.Spec PyProof.Rows
section
variable {M : Model} {A : Around} {E : Value → Shared → Prop} {s : Shared} {B : Heap} {env : Env} {outer : List Env} {l : List Env} {L e : Addr} {cls a0 fl : Value}
theorem flight_any {o : Option Addr} {Q : Unit → Shared → Prop} (hkb : B.StaysIn s.heap) (hl : s.heap.FunFrames B l) (ht : s.heap.TracedAtW B e cls a0 fl)
    (h : ∀ h', B.StaysIn h' → h'.FunFrames B l → h'.TracedAtW B e cls a0 (o.elim Value.none fun f => rawInt f) → s.heap.UpToSlots h' → Q () { s with heap := h' }) : wpAny M A (setFlight (.ref e) o) Q E s := by
  obtain ⟨oe, vs, T, oT, ts, he, hc, hd, h1, hnT, hTe, hT, hdT, h3⟩ := ht
  have sz : 3 < ts.size := (Array.getElem?_eq_some_iff.mp h3).1
  have away : ∀ b, b ≠ T → ∀ g, (s.heap.update T g).get? b = s.heap.get? b := fun b hb g => Heap.get?_update_other _ _ (Ne.symm hb)
  have rcd : ∀ b o, s.heap.get? b = some o → (∀ vs, o.data ≠ .fields vs) → b ≠ T := fun b o hb hn q => by
    subst q; rw [hT] at hb; cases hb; exact hn ts hdT
  unfold setFlight
  refine wpAny_bind (wpAny_field he hd h1 ?_)
  rw [if_pos (by simp)]
  refine wpAny_setField hT hdT sz (h _ (fun b o hb => ?_) (hl.of_keeps fun b o hb hn => ⟨o, (away b (rcd b o hb hn) _).trans hb, rfl⟩) ?_ fun b o hb hn => ⟨o.slots, (away b (rcd b o hb hn) _).trans hb⟩)
  · exact (away b (fun q => by rw [q, hnT] at hb; cases hb) _).trans (hkb b o hb)
  · exact ⟨oe, vs, T, _, _, (away e (Ne.symm hTe) _).trans he, hc, hd, h1, hnT, hTe, Heap.get?_update_self _ hT (Obj.isFreed_of_fields (Obj.data_mapFields hdT _)), Obj.data_mapFields hdT _, by simp [sz]⟩
theorem leaves_any {Q : Unit → Shared → Prop} (hfr : A.frames = some (env :: outer)) (hf : env.frame = some L) (hkb : B.StaysIn s.heap) (hen : B.get? e = none) (hl : s.heap.FunFrames B (env :: outer)) (ht : s.heap.TracedAtW B e cls a0 fl)
    (hQ : ∀ h', Heap.FlyingW B outer e cls a0 h' → s.heap.UpToSlots h' → Q () { s with heap := h' }) : wpAny M A (leaving env (.ref e)) Q E s := by
  by_cases hq : fl = rawInt L
  · subst hq
    unfold leaving
    refine wpAny_bind (wpAny_noteFrame_againW hf ht (wpAny_landsW ⟨hkb, hen, hl, ht⟩ fun h' x u => hQ h' ?_ u))
    obtain ⟨k1, k2, ⟨_, _, k3⟩, k4⟩ := x
    exact ⟨k1, k2, k3, k4⟩
  · -- the mark is taken off first: from there on as if there had been none
    refine wpAny_mono (Q := Q) (E := E) ?_ (fun _ _ q => q) fun _ _ q => q
    obtain ⟨oe, vs, T, oT, ts, he, ⟨hc, h0⟩, hd, h1, hnT, hTe, hT, hdT, h3⟩ := ht
    subst hc
    have away : ∀ b, b ≠ T → ∀ g, (s.heap.update T g).get? b = s.heap.get? b := fun b hb g => Heap.get?_update_other _ _ (Ne.symm hb)
    have rcd : ∀ b o, s.heap.get? b = some o → (∀ vs, o.data ≠ .fields vs) → b ≠ T := fun b o hb hn q => by
      subst q; rw [hT] at hb; cases hb; exact hn ts hdT
    unfold leaving noteFrame
    simp only [hf]
    refine wpAny_bind (wpAny_bind (wpAny_field he hd h1 ?_))
    rw [if_pos (by simp)]
    refine wpAny_bind (wpAny_field hT hdT h3 ?_)
    rw [if_neg (by simpa using hq)]
    refine wpAny_bind (wpAny_setField hT hdT (Array.getElem?_eq_some_iff.mp h3).1 ?_)
    refine wpAny_newEntryW hfr (hl.of_keeps fun b o hb hn => ⟨o, (away b (rcd b o hb hn) _).trans hb, rfl⟩) hf ((away e (Ne.symm hTe) _).trans he)
      (fun b o hb => (away b (fun q => by rw [q, hnT] at hb; cases hb) _).trans (hkb b o hb)) hen hd (Array.getElem?_eq_some_iff.mp h1).1 h0 fun h' x => ?_
    obtain ⟨x1, ⟨_, _, x2⟩, x3, x4⟩ := x
    exact hQ h' ⟨x1, hen, x2, x3⟩ fun b o hb hn => x4 b o ((away b (rcd b o hb hn) _).trans hb) hn
theorem pass_any {α : Type} {what : String} {Q : α → Shared → Prop} {cenv : Env} (hkb : B.StaysIn s.heap) (hl : s.heap.FunFrames B l) (ht : s.heap.TracedAtW B e cls a0 fl)
    (h : ∀ h' fl', B.StaysIn h' → h'.FunFrames B l → h'.TracedAtW B e cls a0 fl' → s.heap.UpToSlots h' → E (.ref e) { s with heap := h' }) : wpAny M A (PySem.passOn what (.ref e) cenv : Sem α) Q E s := by
  obtain ⟨oe, vs, T, oT, ts, he, hc, hd, h1, r⟩ := ht
  unfold PySem.passOn
  refine wpAny_bind (wpAny_field he hd h1 ?_)
  rw [if_neg (by simp)]
  refine wpAny_bind (flight_any hkb hl ⟨oe, vs, T, oT, ts, he, hc, hd, h1, r⟩ fun h' k1 k2 k3 k4 => wpAny_throw (h h' _ k1 k2 k3 k4))
end
theorem comp_loopX {prog : Program} {w : World} {A : Around} {R : Result → Shared → Prop} {s : Shared} {elt target iter : Expr} {ifs : List Expr} {scope : Scope} {pos : Pos} {it acc : Value} {env : Env} (I : Nat → Shared → Prop) (X : Value → Shared → Prop)
    (hX : ∀ x s, X x s → notedBy (model prog w) A env (fun x s' => R (.error x) s') x s)
    (turn : ∀ n s, I n s → wpAny (model prog w) A (pyNext it) (fun r s₁ => match r with
      | none => R (.ok .next) s₁
      | some v => wpAny (model prog w) A (letOwnedTupleGo target it v) (fun _ s₁' => wpAny (model prog w) A (assign target env v) (fun _ s₂ =>
          wpAny (model prog w) A (forIn ifs true fun c r => if r = true then do let ok ← isTrue c env (eval c env); pure (ForInStep.yield ok) else pure (ForInStep.yield r)) (fun ok s₃ =>
            if ok = true then wpAny (model prog w) A (eval elt env) (fun x s₄ =>
              wpAny (model prog w) A (call (.builtin "list.append") [acc, x]) (fun _ s₅ => ∃ m, m < n ∧ I m s₅) (fun _ _ => False) s₄) X s₃
            else ∃ m, m < n ∧ I m s₃) X s₂) X s₁') X s₁) X s)
    (n : Nat) (h : I n s) :
    codeAny (model prog w) A (.compLoop (.ListComp elt [⟨target, iter, ifs, 0⟩] scope pos) 0 it acc env) R s := by
  refine codeAny_loop rfl I (fun n s hI => ?_) n h
  show wpAny _ A ((compTurn (.ListComp elt [⟨target, iter, ifs, 0⟩] scope pos) 0 it acc env).onRaise (fun x => do noteFrame x env; theTreesLotGoes x)) _ _ s
  refine wpAny_noted ?_
  rw [compTurn_list]
  refine wpAny_bind (wpAny_standAt (wpAny_bind (wpAny_mono (turn n s hI) (fun r s₁ h₁ => ?_) fun x s' h' => hX x s' h')))
  cases r with
  | none => exact wpAny_pure h₁
  | some v =>
    refine wpAny_bind (wpAny_mono h₁ (fun _ s₁' h₁' => ?_) fun x s' h' => hX x s' h')
    refine wpAny_bind (wpAny_mono h₁' (fun _ s₂ h₂ => wpAny_bind (wpAny_mono h₂ (fun ok s₃ h₃ => ?_) fun x s' h' => hX x s' h')) fun x s' h' => hX x s' h')
    cases ok with
    | false => exact wpAny_pure ⟨rfl, h₃⟩
    | true =>
      exact wpAny_bind (wpAny_bind (wpAny_mono h₃ (fun x s₄ h₄ => wpAny_bind (wpAny_mono h₄ (fun _ s₅ h₅ => wpAny_pure (wpAny_pure ⟨rfl, h₅⟩)) fun _ _ h' => h'.elim)) fun x s' h' => hX x s' h'))
end L2
set_option Elab.async false
set_option linter.all false
set_option maxRecDepth 100000
set_option maxHeartbeats 1000000
namespace L2
open PySem PySem.Spec PyProof.Rows
section
variable {X : Cx} {pins : List (Addr × Obj)} {σ : St} {H : Hp} {s : Shared}
theorem leaves_onC {M : Model} {E2 : Value → Shared → Prop} {ea C t : Addr} {s' : Shared} {E : XK} {H' : Hp} {B : Heap} {fl : Value} (ch : List Addr) (hch : ∀ b ∈ ch, X.s₀.heap.objs.size ≤ b) (I : Inv X pins σ H s) (hst : X.stack = X.env :: X.outer) (hf : X.env.frame = some X.env.locals) (hex : X.ex = [])
    (os : s'.os = s.os) (bare : AllBare s'.gens) (un : Un (frs X.stack) ch H H' s.heap s'.heap) (hok : HOk X.prog X.w H' s'.heap) (hkb : B.StaysIn s'.heap) (hen : B.get? ea = none) (hl : s'.heap.FunFrames B X.stack) (ht : s'.heap.TracedAtW B ea (.ref C) (.ref t) fl)
    (b1 : ∀ b o, s.heap.get? b = some o → b ∉ frs X.stack → b ∉ ch → ∃ o', B.get? b = some o') (b2 : ∀ b u, H' b = some u → ∃ o, B.get? b = some o) (hE : E (.ref C) none H') : wpAny M X.A (leaving X.env (.ref ea)) (fun _ s'' => CXR X.prog X.w X.outer X.H₀ X.s₀ E (.ref ea) s'') E2 s' := by
  have noex : ∀ b, b ∉ X.ex := fun b z => by rw [hex] at z; cases z
  have nch : ∀ {b o}, X.s₀.heap.get? b = some o → b ∉ ch := fun q z => absurd (Heap.lt_size q) (Nat.not_lt.mpr (hch _ z))
  refine leaves_any (hst ▸ I.ok.frames) hf hkb hen (hst ▸ hl) ht fun h2 x1 x2 => ?_
  have old : ∀ b o, X.s₀.heap.get? b = some o → b ∉ X.fs → ∃ o', B.get? b = some o' := fun b o q n => by
    obtain ⟨o', ho⟩ := I.base.there b o q (noex b)
    exact b1 b o' ho (I.notStk q n) (nch q)
  have fr : ∀ b o, s'.heap.get? b = some o → b ∈ X.fs → ∃ sl, h2.get? b = some { o with slots := sl } := fun b o q hb => by
    obtain ⟨_, o', ho', hd⟩ := hl.mem (I.stkSup hb)
    rw [q] at ho'; cases ho'
    exact x2 b o q hd
  refine ⟨ea, C, t, H', B, rfl, os.trans I.os, bare, ⟨fun b o q n hb _ => ?_, fun b o q n hb _ => ?_, fun b o q n _ => ?_, fun b o q _ => ?_, fun b xs q => un.tups b xs (I.base.tups b xs q), fun b o u q => un.frzs b o u (I.base.frzs b o u q), fun b ps q => ?_⟩, hok.by b2 hkb x1.1, x1, old, b2, hE⟩
  · have e1 := I.base.keep b o q n hb (noex b)
    have e2 := un.keep b o e1 (I.base.free b o q n (noex b)) (I.notStk q hb) (nch q)
    obtain ⟨o', e3⟩ := old b o q hb
    have e4 := hkb b o' e3
    rw [e2] at e4; cases e4
    exact x1.1 b _ e3
  · obtain ⟨sl, e1⟩ := I.base.slot b o q n hb (noex b)
    obtain ⟨sl1, e2⟩ := un.slot b _ e1 (I.base.free b o q n (noex b)) (I.stkSup hb) (nch q)
    obtain ⟨sl2, e3⟩ := fr b _ e2 hb
    exact ⟨sl2, e3⟩
  · obtain ⟨o', e1⟩ := I.base.there b o q (noex b)
    exact un.free b o' e1 (I.base.free b o q n (noex b)) (nch q)
  · by_cases hb : b ∈ X.fs
    · obtain ⟨o', e1⟩ := I.base.there b o q (noex b)
      obtain ⟨o2, e2⟩ := un.there b o' e1 (nch q)
      obtain ⟨sl2, e3⟩ := fr b _ e2 hb
      exact ⟨_, e3⟩
    · obtain ⟨o', e1⟩ := old b o q hb
      exact ⟨_, x1.1 b o' e1⟩
  · obtain ⟨m1, e1⟩ := I.base.tbls b ps q
    obtain ⟨m2, e2⟩ := un.tbls b _ e1
    exact ⟨m1 ++ m2, by rw [e2, Array.append_assoc]⟩
end
end L2
set_option Elab.async false
set_option linter.all false
set_option maxRecDepth 100000
set_option maxHeartbeats 1000000
namespace L2
open PySem PySem.Spec PyProof.Rows
theorem none_less {B B' : Heap} (k : ∀ b o, B'.get? b = some o → B.get? b = some o) {L : Addr} (h : B.get? L = none) : B'.get? L = none := by
  cases q : B'.get? L with
  | none => rfl
  | some u => rw [k _ _ q] at h; cases h
theorem frames_move {h h' B B' : Heap} (k : ∀ b o, B'.get? b = some o → B.get? b = some o) : ∀ {l : List Env}, (∀ b ∈ frs l, h'.get? b = h.get? b) → h.FunFrames B l → h'.FunFrames B' l
  | [], _, _ => trivial
  | env :: rest, g, ⟨h1, ⟨L, o, h2, h3, h4⟩, h5⟩ => by
    have hm : L ∈ frs (env :: rest) := by unfold frs; rw [List.filterMap_cons, h2]; exact List.mem_cons_self
    refine ⟨h1, ⟨L, o, h2, none_less k h3, by rw [g L hm]; exact h4⟩, frames_move k (fun b hb => g b ?_) h5⟩
    unfold frs; rw [List.filterMap_cons, h2]; exact List.mem_cons_of_mem _ hb
theorem comp_leaves {X Y : Cx} {pins pinsY : List (Addr × Obj)} {σ σY : St} {H2 H3 : Hp} {s2 s3 s' : Shared} {E : XK} {e : Value} {C : Addr} {ex : List Addr} {ob : Obj} {env' : Env}
    (I2 : Inv X pins σ H2 s2) (IY : Inv Y pinsY σY H3 s3) (yl : Y.env.locals = C) (yos : Y.s₀.os = s2.os) (U : Un (frs X.stack) ex H2 H3 (s2.heap.push ob) s3.heap) (hC : s2.heap.objs.size ≤ C) (hexs : ∀ b ∈ ex, X.s₀.heap.objs.size ≤ b)
    (hst : X.stack = X.env :: X.outer) (hf : X.env.frame = some X.env.locals) (hex : X.ex = []) (henv : env'.frame = X.env.frame)
    (hxe : ∀ x s, wpAny (model X.prog X.w) X.A (leaving X.env x) (fun _ s'' => CXR X.prog X.w X.outer X.H₀ X.s₀ E x s'') (fun x' s'' => CXR X.prog X.w X.outer X.H₀ X.s₀ E x' s'') s → X.xe x s)
    (h : CXR X.prog X.w X.stack H3 s3 E e s') :
    notedBy (model X.prog X.w) X.A env' (fun x s'' => ∃ m, s''.heap.Ns C m ∧ ∀ h', Heap.SameBut C s''.heap h' → ∀ cenv : Env, cenv.locals = C → wpAny (model X.prog X.w) X.A (PySem.passOn "comprehension.variables-let-go" x cenv : Sem Value) (fun _ _ => False) X.xe { s'' with heap := h' }) e s' := by
  obtain ⟨ea, Cc, t, H', B, rfl, os, bare, un, hok, fl, b1, b2, hE⟩ := h
  have en : noteFrame (.ref ea) env' = noteFrame (.ref ea) X.env := by unfold noteFrame PySem.frameOf; rw [henv]
  unfold notedBy
  rw [en]
  have fl0 := fl
  rw [hst] at fl0
  refine wpAny_looks_onW (env := X.env) (outer := X.outer) (hst ▸ I2.ok.frames) hf fl0 fun h1 held up1 => ?_
  rw [← hst] at held
  have nil : ∀ b : Addr, b ∉ ([] : List Addr) := fun b z => by cases z
  have cNot : C ∉ frs X.stack := fun z => by
    obtain ⟨_, o, ho, _⟩ := I2.stack.mem z
    exact absurd (Heap.lt_size ho) (Nat.not_lt.mpr hC)
  obtain ⟨mC, nsC, _⟩ := IY.loc
  have cF := IY.free
  rw [yl] at nsC cF
  obtain ⟨oC, _, _, eC, _⟩ := id nsC
  have cF' : H' C = none := un.free C oC eC cF (nil C)
  have ns1 : h1.Ns C mC := up1.ns (nsC.at' fun o q => un.keep C o q cF cNot (nil C))
  refine ⟨mC, ns1, fun h2 sb cenv _ => ?_⟩
  have sub : ∀ b o, (PySem.W.hideAll B [C]).get? b = some o → B.get? b = some o := fun b o q => PySem.W.of_hideAll _ q
  have nC : ∀ {b o}, (PySem.W.hideAll B [C]).get? b = some o → b ≠ C := fun {b o} q z => by
    subst z; rw [PySem.W.hideAll_none [b] (List.mem_singleton.mpr rfl)] at q; cases q
  have into : ∀ {b o}, B.get? b = some o → b ≠ C → (PySem.W.hideAll B [C]).get? b = some o := fun q n => PySem.W.hideAll_get _ q fun z => n (List.mem_singleton.mp z)
  have st2 : (PySem.W.hideAll B [C]).StaysIn h2 := fun b o q => (sb.2 b (nC q)).trans (held.1 b o (sub b o q))
  have fr2 : h2.FunFrames (PySem.W.hideAll B [C]) X.stack := frames_move sub (fun b hb => sb.2 b fun z => cNot (z ▸ hb)) held.2.2.1
  have noF : ∀ b o vs, h1.get? b = some o → o.data = .fields vs → b ≠ C := fun b o vs q d z => by
    obtain ⟨o', es, ep, ho, hd, _⟩ := ns1
    subst z
    rw [q] at ho; cases ho
    rw [d] at hd; cases hd
  have tr2 : h2.TracedAtW (PySem.W.hideAll B [C]) ea (.ref Cc) (.ref t) (rawInt X.env.locals) := by
    obtain ⟨oe, vs, T, oT, ts, he, hc, hd, h1', hnT, hTe, hT, hdT, h3⟩ := held.2.2.2
    exact ⟨oe, vs, T, oT, ts, (sb.2 ea (noF _ _ _ he hd)).trans he, hc, hd, h1', none_less sub hnT, hTe, (sb.2 T (noF _ _ _ hT hdT)).trans hT, hdT, h3⟩
  refine pass_any (B := PySem.W.hideAll B [C]) (l := X.stack) st2 fr2 tr2 fun h3 fl' k1 k2 k3 k4 => hxe _ _ ?_
  have nonF : ∀ b ∈ frs X.stack, ∀ o, s'.heap.get? b = some o → ∃ sl, h3.get? b = some { o with slots := sl } := fun b hb o q => by
    obtain ⟨_, o', ho', hd⟩ := fl.2.2.1.mem hb
    rw [q] at ho'; cases ho'
    obtain ⟨sl, e1⟩ := up1 b o q hd
    have nb : b ≠ C := fun z => cNot (z ▸ hb)
    have e2 : h2.get? b = some { o with slots := sl } := (sb.2 b nb).trans e1
    obtain ⟨sl2, e3⟩ := k4 b _ e2 hd
    exact ⟨sl2, e3⟩
  have push : ∀ {b o}, s2.heap.get? b = some o → (s2.heap.push ob).get? b = some o := fun q => Heap.get?_push_of_some _ q
  have nbC : ∀ {b o}, s2.heap.get? b = some o → b ≠ C := fun q z => absurd (Heap.lt_size q) (Nat.not_lt.mpr (z ▸ hC))
  have inB : ∀ b o, s2.heap.get? b = some o → b ∉ frs X.stack → b ∉ ex → ∃ o', (PySem.W.hideAll B [C]).get? b = some o' := fun b o q hb hx => by
    obtain ⟨o3, e3⟩ := U.there b o (push q) hx
    obtain ⟨o', eB⟩ := b1 b o3 e3 hb
    exact ⟨o', into eB (nbC q)⟩
  have trk : ∀ b u, H' b = some u → ∃ o, (PySem.W.hideAll B [C]).get? b = some o := fun b u q => by
    obtain ⟨o, eB⟩ := b2 b u q
    exact ⟨o, into eB fun z => by rw [z, cF'] at q; cases q⟩
  have hen' : (PySem.W.hideAll B [C]).get? ea = none := by
    cases q : (PySem.W.hideAll B [C]).get? ea with
    | none => rfl
    | some o => have := sub _ _ q; rw [fl.2.1] at this; cases this
  refine leaves_onC (C := Cc) (t := t) (H' := H') (B := PySem.W.hideAll B [C]) (fl := fl') (C :: ex) (fun b hb => ?_) I2 hst hf hex (os.trans (IY.os.trans yos)) bare ⟨fun b o q n hb hx => ?_, fun b o q n hb hx => ?_, fun b o q n hx => ?_, fun b o q hx => ?_, fun b xs q => un.tups b xs (U.tups b xs q), fun b o u q => un.frzs b o u (U.frzs b o u q), fun b ps q => ?_⟩ (hok.by trk (fun b o q => fl.1 b o (sub b o q)) k1) k1 hen' k2 k3 (fun b o q hb hx => inB b o q hb fun z => hx (List.mem_cons_of_mem _ z)) trk hE
  · rcases List.mem_cons.mp hb with rfl | hb
    · exact Nat.le_trans I2.sz hC
    · exact hexs b hb
  · have hx' : b ∉ ex := fun z => hx (List.mem_cons_of_mem _ z)
    have e3 := U.keep b o (push q) n hb hx'
    have e4 := un.keep b o e3 (U.free b o (push q) n hx') hb (nil b)
    obtain ⟨o', eB⟩ := b1 b o e3 hb
    have := fl.1 b o' eB
    rw [e4] at this; cases this
    exact k1 b o (into eB (nbC q))
  · have hx' : b ∉ ex := fun z => hx (List.mem_cons_of_mem _ z)
    obtain ⟨sl, e3⟩ := U.slot b o (push q) n hb hx'
    obtain ⟨sl1, e4⟩ := un.slot b _ e3 (U.free b o (push q) n hx') hb (nil b)
    obtain ⟨sl2, e5⟩ := nonF b hb _ e4
    exact ⟨sl2, e5⟩
  · have hx' : b ∉ ex := fun z => hx (List.mem_cons_of_mem _ z)
    obtain ⟨o3, e3⟩ := U.there b o (push q) hx'
    exact un.free b o3 e3 (U.free b o (push q) n hx') (nil b)
  · have hx' : b ∉ ex := fun z => hx (List.mem_cons_of_mem _ z)
    by_cases hb : b ∈ frs X.stack
    · obtain ⟨o3, e3⟩ := U.there b o (push q) hx'
      obtain ⟨o4, e4⟩ := un.there b o3 e3 (nil b)
      obtain ⟨sl2, e5⟩ := nonF b hb _ e4
      exact ⟨_, e5⟩
    · obtain ⟨o', eB⟩ := inB b o q hb hx'
      exact ⟨o', k1 b o' eB⟩
  · obtain ⟨m1, e1⟩ := U.tbls b ps q
    obtain ⟨m2, e2⟩ := un.tbls b _ e1
    exact ⟨m1 ++ m2, by rw [e2, Array.append_assoc]⟩
end L2
set_option Elab.async false
set_option linter.all false
set_option maxRecDepth 100000
set_option maxHeartbeats 1000000
namespace L2
open PySem PySem.Spec PyProof.Rows
theorem comp_coreX {X : Cx} {E : XK} {elt tg iter : Expr} {ifs : List Expr} {scope : Scope} {pos : Pos} {N : List Str} {k : Nat} {cap : List Nat} {wi : TI} {tt : TTg} {tc : TT} {te : TE} {cl : List (Str × Addr)}
    (hc : X.calm = true) (hi : PI X tg iter wi) (hg : ∀ cl C s H ex pn xe, PTg ((compCx X scope N cl C s H ex pn).wish xe) k tg tt) (ht : ∀ cl C s H ex pn xe, PTs ((compCx X scope N cl C s H ex pn).wish xe) ifs tc)
    (he : ∀ cl C s H ex pn xe, Passes (CXR X.prog X.w) ((compCx X scope N cl C s H ex pn).wish xe) E → PE ((compCx X scope N cl C s H ex pn).wish xe) elt te)
    (hst : X.stack = X.env :: X.outer) (hf : X.env.frame = some X.env.locals) (hex : X.ex = [])
    (hxe : ∀ x s, wpAny (model X.prog X.w) X.A (leaving X.env x) (fun _ s'' => CXR X.prog X.w X.outer X.H₀ X.s₀ E x s'') (fun x' s'' => CXR X.prog X.w X.outer X.H₀ X.s₀ E x' s'') s → X.xe x s) (S : CompOk scope X.env.scope N X.N k cap)
    (hcl1 : ∀ x c, cl.lookup x = some c → X.env.cells.lookup x = some c) (hcl2 : ∀ x, (x, NameKind.free) ∈ scope.names → ∃ c, cl.lookup x = some c)
    {pins : List (Addr × Obj)} {s : Shared} {σ : St} {H : Hp} {Q : VK} (I : Inv X pins σ H s) (h : tComp wi tt tc te cap σ H Q) {RR : Value → Addr → Result → Shared → Prop}
    (hRR : ∀ D C s1 H', Inv X pins σ H' s1 → Blk X pins H' s1 C → Q (.ref D) H' → RR (.ref D) C (.ok .next) s1)
    (hRX : ∀ D C x s1, (∃ m, s1.heap.Ns C m ∧ ∀ h', Heap.SameBut C s1.heap h' → ∀ cenv : Env, cenv.locals = C → wpAny (model X.prog X.w) X.A (PySem.passOn "comprehension.variables-let-go" x cenv : Sem Value) (fun _ _ => False) X.xe { s1 with heap := h' }) → RR D C (.error x) s1) :
    wpAny (model X.prog X.w) X.A (eval iter X.env) (fun x s₁ => wpAny (model X.prog X.w) X.A (pyIter x) (fun it s₂ => wpAny (model X.prog X.w) X.A (newList []) (fun acc s₃ =>
      wpAny (model X.prog X.w) X.A (newFunctionEnv scope X.env.globals cl [] X.env.qual none .none (some X.env)) (fun cenv s₄ =>
        codeAny (model X.prog X.w) X.A (.compStart (.ListComp elt [⟨tg, iter, ifs, 0⟩] scope pos) 0 it acc { cenv with scope := relabel scope X.env }) (RR acc cenv.locals) s₄) X.xe s₃) X.xe s₂) X.xe s₁) X.xe s := by
  refine thn (hi pins s σ H _ I h) fun v s1 h1 => thn h1 fun itv s2 h2 => ?_
  obtain ⟨it, fp, tn, J, H2, e, I2, T, st2, f2, W, ⟨m0, w0⟩, turn⟩ := h2
  subst e
  refine wpAny_newObj_type (wpAny_newFunctionEnv S.cell (by intro y hy; simp at hy) (fun h₁ hns₁ hsb₁ => ?_) S.kind)
  dsimp only at hns₁ hsb₁ ⊢
  have hP : s2.heap.push { cls := .type "list", dict := none, data := .seq ([] : List Value).toArray } = s2.heap.push { cls := .type "list", data := .seq #[] } := rfl
  rw [hP] at hns₁ hsb₁ ⊢
  have hC : (s2.heap.push { cls := .type "list", data := .seq #[] }).objs.size = s2.heap.objs.size + 1 := Heap.size_push ..
  rw [hC] at hns₁ hsb₁ ⊢
  have hsb : ∀ b o, (s2.heap.push { cls := .type "list", data := .seq #[] }).get? b = some o → h₁.get? b = some o := fun b o e =>
    hsb₁.extBut b o (by have := Heap.lt_size e; rw [hC] at this; exact Nat.ne_of_lt this) (Heap.get?_push_of_some _ e)
  have hob : ∀ b ∈ fp, ∃ o, s2.heap.get? b = some o := fun b hb => by obtain ⟨o, e, _⟩ := T.obj _ _ st2 b hb; exact ⟨o, e⟩
  have IY := comp_start (N := N) (k := k) (cap := cap) (tk := s2.toks + ([] : List (Str × Value)).length) I2 S hcl1 hcl2 f2 hob hns₁ hsb
  obtain ⟨xb, hxb⟩ : ∃ xb : Value → Shared → Prop, xb = fun x s' => ∃ (pl : List (Addr × Obj)) (σ' : St) (H' : Hp) (s3 : Shared), Inv (compCx X scope N cl (s2.heap.objs.size + 1) { s2 with heap := s2.heap.push { cls := .type "list", data := .seq #[] } } H2 (s2.heap.objs.size :: fp) (X.pn ++ pins)) pl σ' H' s3 ∧ CXR X.prog X.w X.stack H' s3 E x s' := ⟨_, rfl⟩
  replace IY := IY.wish xb
  have pB : Passes (CXR X.prog X.w) ((compCx X scope N cl (s2.heap.objs.size + 1) { s2 with heap := s2.heap.push { cls := .type "list", data := .seq #[] } } H2 (s2.heap.objs.size :: fp) (X.pn ++ pins)).wish xb) E := fun pl σ' H' s3 x s' I h => by rw [hxb]; exact ⟨pl, σ', H', s3, I.unwish, h⟩
  have lv : ∀ x s', xb x s' → notedBy (model X.prog X.w) X.A (compEnvC scope cl (s2.heap.objs.size + 1) X.env) (fun x s' => RR (.ref s2.heap.objs.size) (s2.heap.objs.size + 1) (.error x) s') x s' := fun x s' z => by
    rw [hxb] at z
    obtain ⟨pl, σ', H', s3, I3, z⟩ := z
    refine wpAny_mono (comp_leaves I2 I3 rfl rfl I3.base (Nat.le_succ _) (fun b hb => ?_) hst hf hex rfl hxe z) (fun _ s'' q => hRX _ _ _ _ q) fun _ s'' q => hRX _ _ _ _ q
    rcases List.mem_cons.mp hb with rfl | hb
    · exact I2.sz
    · exact (f2 b hb).2.2.2.1.elim (fun z => by rw [hex] at z; cases z) id
  generalize hY : (compCx X scope N cl (s2.heap.objs.size + 1) { s2 with heap := s2.heap.push { cls := .type "list", data := .seq #[] } } H2 (s2.heap.objs.size :: fp) (X.pn ++ pins)).wish xb = Y at IY
  have yp : Y.prog = X.prog := by rw [← hY]
  have yw : Y.w = X.w := by rw [← hY]
  have yK : Y.K = X.K := by rw [← hY]
  have yA : Y.A = X.A := by rw [← hY]
  have yc : Y.calm = true := by rw [← hY]; exact hc
  have yl : Y.env.locals = s2.heap.objs.size + 1 := by rw [← hY]; rfl
  have yenv : Y.env = compEnvC scope cl (s2.heap.objs.size + 1) X.env := by rw [← hY]
  have yex : Y.ex = s2.heap.objs.size :: fp := by rw [← hY]
  have yfs : Y.fs = frs X.stack := by rw [← hY]
  have ypn : Y.pn = X.pn ++ pins := by rw [← hY]
  have ycl : Y.env.cells = cl := by rw [← hY]; rfl
  have yxe : Y.xe = xb := by rw [← hY]
  have gT : PTg Y k tg tt := by rw [← hY]; exact hg _ _ _ _ _ _ _
  have gC : PTs Y ifs tc := by rw [← hY]; exact ht _ _ _ _ _ _ _
  have gE : PE Y elt te := by rw [← hY]; exact he _ _ _ _ _ _ _ pB
  have yH : Y.H₀ = H2 := by rw [← hY]
  have ys0 : Y.s₀ = { s2 with heap := s2.heap.push { cls := .type "list", data := .seq #[] } } := by rw [← hY]
  have fpLt : ∀ b ∈ fp, b < s2.heap.objs.size := fun b hb => by obtain ⟨o, e⟩ := hob b hb; exact Heap.lt_size e
  have pinLt : ∀ p ∈ X.pn ++ pins, p.1 < s2.heap.objs.size := fun p hp => Heap.lt_size (I2.pin p hp).1
  have cellLt : ∀ x c, X.env.cells.lookup x = some c → c < s2.heap.objs.size := fun x c e => by
    obtain ⟨v, q⟩ := I2.cell x c e
    exact q.lt
  have stkNe : ∀ b, b ≠ X.env.locals → b ∉ X.fs → b ∉ frs X.stack := fun b h1 h2 hb => (List.mem_cons.mp (I2.stkSub b hb)).elim h1 h2
  have fpY : ∀ {H' : Hp} {pl : List (Addr × Obj)}, (∀ b ∈ fp, H' b = none) → (∀ p ∈ pl, p.1 = s2.heap.objs.size) → ∀ b ∈ fp, FpOk Y pl H' b := fun {H' pl} hn hpl b hb => by
    refine ⟨hn b hb, ?_, ?_, .inl ?_, fun x c e => ?_, fun p hp => ?_⟩
    · rw [yl]; exact Nat.ne_of_lt (Nat.lt_succ_of_lt (fpLt b hb))
    · rw [yfs]; exact stkNe b (f2 b hb).2.1 (f2 b hb).2.2.1
    · rw [yex]; exact List.mem_cons_of_mem _ hb
    · rw [ycl] at e; exact (f2 b hb).2.2.2.2.1 x c (hcl1 x c e)
    · rcases List.mem_append.mp hp with hp | hp
      · rw [ypn] at hp; exact (f2 b hb).2.2.2.2.2 p hp
      · rw [hpl p hp]; exact Nat.ne_of_gt (fpLt b hb)
  have loop : ∀ s₃ : Shared, s₃ = { s2 with heap := h₁, toks := s2.toks + ([] : List (Str × Value)).length } →
      codeAny (model X.prog X.w) X.A (.compLoop (.ListComp elt [⟨tg, iter, ifs, 0⟩] scope pos) 0 (.ref it) (.ref s2.heap.objs.size) (compEnvC scope cl (s2.heap.objs.size + 1) X.env)) (RR (.ref s2.heap.objs.size) (s2.heap.objs.size + 1)) s₃ := by
    rintro s₃ rfl
    refine comp_loopX (X := xb) (hX := lv) (fun n s' => ∃ i ys its H' c, Inv Y [(s2.heap.objs.size, { cls := .type "list", data := .seq (List.toArray its) c })] (List.replicate k none ++ capS σ cap) H' s' ∧ tn i s'.heap ∧ (∀ b ∈ fp, H' b = none) ∧ Vals ys its ∧ W i n ys H') ?_ m0
      ⟨0, [], [], H2, _, IY, T.keep _ _ _ st2 fun b hb o e => hsb b o (Heap.get?_push_of_some _ e), fun b hb => (f2 b hb).1, .nil, w0⟩
    rintro n s3 ⟨i, ys, its, H3, c3, I3, st3, fr3, rv3, w3⟩
    have onlyD : ∀ p ∈ [(s2.heap.objs.size, ({ cls := .type "list", data := .seq its.toArray c3 } : Obj))], p.1 = s2.heap.objs.size := fun p hp => by
      have : p = (s2.heap.objs.size, { cls := .type "list", data := .seq its.toArray c3 }) := by simpa using hp
      rw [this]
    have pinD : ∀ {pl : List (Addr × Obj)} {σ' : St} {H' : Hp} {s' : Shared}, Inv Y ([(s2.heap.objs.size, ({ cls := .type "list", data := .seq its.toArray c3 } : Obj))] ++ pl) σ' H' s' → s'.heap.get? s2.heap.objs.size = some { cls := .type "list", data := .seq its.toArray c3 } ∧ H' s2.heap.objs.size = none := fun I' => by
      obtain ⟨e, n, _⟩ := I'.pin (s2.heap.objs.size, { cls := .type "list", data := .seq its.toArray c3 }) (List.mem_append_right _ (List.mem_append_left _ (by simp)))
      exact ⟨e, n⟩
    rcases turn i n ys H3 w3 with ⟨stop, hz, qn⟩ | ⟨go, Nx, hNx, step⟩
    · have hd := T.done Y yp yw yK yc i _ s3 _ H3 xb I3 (fpY fr3 onlyD) st3 stop
      rw [yA] at hd
      refine thn hd fun r s4 hm0 => ?_
      obtain ⟨hr, I4⟩ := hm0
      subst hr
      obtain ⟨eD, nD⟩ := pinD (pl := []) (by simpa using I4)
      have nC : H3 (s2.heap.objs.size + 1) = none := by have := I4.free; rw [yl] at this; exact this
      obtain ⟨mC, nsC, _⟩ := I4.loc
      rw [yl] at nsC
      have U := I4.base
      rw [yfs, yex, yH, ys0] at U
      have old : ∀ {b o}, s2.heap.get? b = some o → b < s2.heap.objs.size := fun e => Heap.lt_size e
      have Un2 : Un (frs X.stack) (s2.heap.objs.size :: fp) H2 (upd H3 s2.heap.objs.size (.lst ys)) s2.heap s4.heap :=
        ⟨fun b o e n hb hx => U.keep b o (Heap.get?_push_of_some _ e) n hb hx, fun b o e n hb hx => U.slot b o (Heap.get?_push_of_some _ e) n hb hx,
          fun b o e n hx => by rw [upd_ne (Nat.ne_of_lt (old e))]; exact U.free b o (Heap.get?_push_of_some _ e) n hx, fun b o e hx => U.there b o (Heap.get?_push_of_some _ e) hx,
          fun b xs e => by have q := U.tups b xs e; rw [upd_ne (ne_of_none q nD)]; exact q, fun b o u e => by have q := U.frzs b o u e; rw [upd_ne (ne_of_none q nD)]; exact q,
          fun b ps e => by obtain ⟨mo, q⟩ := U.tbls b ps e; exact ⟨mo, by rw [upd_ne (ne_of_none q nD)]; exact q⟩⟩
      have hok4 := I4.hok
      rw [yp, yw] at hok4
      have IX : Inv X pins σ (upd H3 s2.heap.objs.size (.lst ys)) s4 := by
        refine I2.call' (ch := s2.heap.objs.size :: fp) ?_ Un2 (hok4.adopt nD ⟨hz, its, c3, rv3, eD⟩) I4.bare fun b hb => ?_
        · have := I4.os; rw [ys0] at this; exact this
        · rcases List.mem_cons.mp hb with rfl | hb
          · exact ⟨.inr I2.sz, Nat.ne_of_gt I2.lt, fun x c e => Nat.ne_of_lt (cellLt x c e), fun p hp => Nat.ne_of_lt (pinLt p hp)⟩
          · exact ⟨(f2 b hb).2.2.2.1, (f2 b hb).2.1, (f2 b hb).2.2.2.2.1, (f2 b hb).2.2.2.2.2⟩
      refine hRR _ _ s4 _ IX ⟨⟨mC, nsC⟩, ?_, ?_, Nat.le_succ_of_le I2.sz, fun x c e => Nat.ne_of_lt (Nat.lt_succ_of_lt (cellLt x c e)), fun p hp => Nat.ne_of_lt (Nat.lt_succ_of_lt (pinLt p hp))⟩ (qn _ nD)
      · rw [upd_ne (Nat.succ_ne_self _)]; exact nC
      · exact Nat.ne_of_gt (Nat.lt_succ_of_lt I2.lt)
    · have hd := T.item Y yp yw yK yc i _ s3 _ H3 xb I3 (fpY fr3 onlyD) st3 go
      rw [yA] at hd
      refine thn hd fun r s4 hm0 => ?_
      obtain ⟨u, hr, h4⟩ := hm0
      subst hr
      refine thn h4 fun _ s5 hm0 => ?_
      obtain ⟨x, H5, I5, r5, y5, st5, fr5⟩ := hm0
      have I5' := I5.pinned (fpY fr5 onlyD) (T.obj _ _ st5)
      have a5 := gT _ s5 _ H5 x u _ I5' (by simp) r5 (step x H5 y5)
      rw [yp, yw, yA, yxe, yenv] at a5
      refine thn a5 fun _ s6 hm0 => ?_
      obtain ⟨ws, hlw, q6, I6⟩ := hm0
      have dr : (List.replicate k (none : Option V) ++ capS σ cap).drop k = capS σ cap := by
        rw [List.drop_append_of_le_length (by simp)]; simp
      rw [dr] at I6
      have a6 := gC _ s6 _ H5 _ I6 q6
      rw [yp, yw, yA, yxe, yenv] at a6
      refine thn a6 fun ok s7 hm0 => ?_
      obtain ⟨H7, I7, q7⟩ := hm0
      have wk : ∀ (j : Nat) v, (List.replicate k (none : Option V) ++ capS σ cap)[j]? = some (some v) → (ws.map some ++ capS σ cap)[j]? = some (some v) := fun j v e => by
        have hik : k ≤ j := by
          refine Nat.le_of_not_lt fun hlt => ?_
          rw [List.getElem?_append_left (by simpa using hlt), List.getElem?_replicate] at e
          split at e <;> cases e
        rw [List.getElem?_append_right (by simpa using hik), List.length_replicate] at e
        rw [List.getElem?_append_right (by simpa [hlw] using hik), List.length_map, hlw]
        exact e
      have wl : (List.replicate k (none : Option V) ++ capS σ cap).length = (ws.map some ++ capS σ cap).length := by simp [hlw]
      have stn : ∀ {H' : Hp} {s' : Shared}, Inv Y ([(s2.heap.objs.size, ({ cls := .type "list", data := .seq its.toArray c3 } : Obj))] ++ pinsAt fp s5.heap) (ws.map some ++ capS σ cap) H' s' → tn (i + 1) s'.heap ∧ ∀ b ∈ fp, H' b = none := fun {H' s'} I' => by
        refine ⟨T.keep _ _ _ st5 fun b hb o e => (I'.pin (b, o) (List.mem_append_right _ (List.mem_append_right _ (mem_pinsAt hb e)))).1, fun b hb => ?_⟩
        obtain ⟨o, e, d⟩ := T.obj _ _ st5 b hb
        exact (I'.pin (b, o) (List.mem_append_right _ (List.mem_append_right _ (mem_pinsAt hb e)))).2.1
      cases ok with
      | false =>
        obtain ⟨_, m', hm, w'⟩ := hNx _ _ q7
        obtain ⟨t7, f7⟩ := stn I7
        exact ⟨m', hm, i + 1, ys, its, H7, c3, (I7.weak wl wk).unpinned, t7, f7, rv3, w'⟩
      | true =>
        have a7 := gE _ s7 _ H7 _ I7 q7
        rw [yp, yw, yA, yxe, yenv] at a7
        rw [if_pos rfl]
        refine thn a7 fun yv s8 hm0 => ?_
        obtain ⟨y, H8, I8, r8, q8⟩ := hm0
        obtain ⟨hz8, m', hm, w'⟩ := hNx _ _ q8
        rw [List.length_append, List.length_singleton] at hz8
        obtain ⟨eD, nD⟩ := pinD I8
        obtain ⟨t8, f8⟩ := stn I8
        refine wpAny_list_append_plain (hsz := by rw [List.size_toArray, ← rv3.length]; omega) ⟨c3, eD⟩ fun h9 pl9 sb9 => ?_
        obtain ⟨c9, e9⟩ := pl9
        have I8' : Inv Y [] (List.replicate k none ++ capS σ cap) H8 s8 := (I8.weak wl wk).pins_of fun p hp => by cases hp
        have I9 : Inv Y [] (List.replicate k none ++ capS σ cap) H8 { s8 with heap := h9 } :=
          I8'.turned (t' := s8.toks) (it := s2.heap.objs.size) (fun b o hb e => sb9.extBut b o hb e) nD (by rw [yl]; exact Nat.ne_of_lt (Nat.lt_succ_self _)) (.inl (by rw [yex]; exact List.mem_cons_self)) (fun x c e => by rw [ycl] at e; exact Nat.ne_of_lt (cellLt x c (hcl1 x c e)))
            fun p hp => by
              rw [List.append_nil, ypn] at hp
              exact Nat.ne_of_lt (pinLt p hp)
        have e9' : h9.get? s2.heap.objs.size = some { cls := .type "list", data := .seq (its ++ [yv]).toArray c9 } := by rw [e9]; simp
        refine ⟨m', hm, i + 1, ys ++ [y], its ++ [yv], H8, c9, I9.pins_of fun p hp => ?_, T.keep _ _ _ t8 fun b hb o e => sb9.extBut b o (Nat.ne_of_lt (fpLt b hb)) e, f8, rv3.append (.cons r8 .nil), w'⟩
        have : p = (s2.heap.objs.size, { cls := .type "list", data := .seq (its ++ [yv]).toArray c9 }) := by simpa using hp
        subst this
        refine ⟨e9', nD, ?_, ?_, fun v z => by cases z⟩
        · rw [yl]; exact Nat.ne_of_lt (Nat.lt_succ_self _)
        · rw [yfs]; exact stkNe _ (Nat.ne_of_gt I2.lt) (I2.nofs (Nat.le_refl _))
  exact codeAny_compStart_list (loop _ rfl) (T.self _ 0 _ _ _ (T.keep _ _ _ st2 fun b hb o e => hsb b o (Heap.get?_push_of_some _ e)) (loop _ rfl))
section
variable {X : Cx} {elt tg iter : Expr} {ifs : List Expr} {scope : Scope} {pos : Pos} {N : List Str} {k : Nat} {cap : List Nat} {wi : TI} {tt : TTg} {tc : TT} {te : TE}
theorem pe_compX {E : XK} (hc : X.calm = true) (S : CompOk scope X.env.scope N X.N k cap) (hi : PI X tg iter wi) (hg : ∀ cl C s H ex pn xe, PTg ((compCx X scope N cl C s H ex pn).wish xe) k tg tt) (ht : ∀ cl C s H ex pn xe, PTs ((compCx X scope N cl C s H ex pn).wish xe) ifs tc)
    (he : ∀ cl C s H ex pn xe, Passes (CXR X.prog X.w) ((compCx X scope N cl C s H ex pn).wish xe) E → PE ((compCx X scope N cl C s H ex pn).wish xe) elt te)
    (hst : X.stack = X.env :: X.outer) (hf : X.env.frame = some X.env.locals) (hex : X.ex = [])
    (hxe : ∀ x s, wpAny (model X.prog X.w) X.A (leaving X.env x) (fun _ s'' => CXR X.prog X.w X.outer X.H₀ X.s₀ E x s'') (fun x' s'' => CXR X.prog X.w X.outer X.H₀ X.s₀ E x' s'') s → X.xe x s) (hs : ∀ x, foldedSetIterable iter X.env x = pure x := by intro _; rfl) :
    PE X (.ListComp elt [⟨tg, iter, ifs, 0⟩] scope pos) (tComp wi tt tc te cap) := by
  intro pins s σ H Q I h
  obtain ⟨cl, hclos, hcl1, hcl2⟩ := clos_of (scope := scope) (env := X.env) fun y hy hf => I.ok.has y.1 (S.free y hy hf)
  rw [eval_ListComp]
  refine wpAny_comprehension_free (use := none) rfl hs hclos S.kind S.loc ?_
  refine comp_coreX hc hi hg ht he hst hf hex hxe S hcl1 hcl2 I h (fun D C s1 H' I1 B q => ?_) fun _ _ _ _ z => z
  obtain ⟨m, hm⟩ := B.ns
  exact ⟨m, hm, fun h' sb => ⟨.ref D, H', B.turn I1 sb, rfl, q⟩⟩
end
end L2
set_option Elab.async false
set_option linter.all false
set_option maxRecDepth 100000
set_option maxHeartbeats 1000000
namespace L2
open PySem PySem.Spec PyProof.Rows
section
variable {X : Cx} {elt tg iter : Expr} {ifs : List Expr} {scope : Scope} {pos : Pos} {N : List Str} {k : Nat} {cap : List Nat} {wi : TI} {tt : TTg} {tc : TT} {te : TE}
end
section
variable {X : Cx} {elt tg iter : Expr} {ifs : List Expr} {scope : Scope} {pos : Pos} {wi : TI} {tt : TTg} {tc : TT} {te : TE}
theorem pe_lcX {E : XK} (psc : Scope) (PN N : List Str) (k : Nat) (cap : List Nat) (hi : PI X tg iter wi) (hg : ∀ cl C s H ex pn xe, PTg ((compCx X scope N cl C s H ex pn).wish xe) k tg tt) (ht : ∀ cl C s H ex pn xe, PTs ((compCx X scope N cl C s H ex pn).wish xe) ifs tc)
    (he : ∀ cl C s H ex pn xe, Passes (CXR X.prog X.w) ((compCx X scope N cl C s H ex pn).wish xe) E → PE ((compCx X scope N cl C s H ex pn).wish xe) elt te)
    (hxe : ∀ x s, wpAny (model X.prog X.w) X.A (leaving X.env x) (fun _ s'' => CXR X.prog X.w X.outer X.H₀ X.s₀ E x s'') (fun x' s'' => CXR X.prog X.w X.outer X.H₀ X.s₀ E x' s'') s → X.xe x s := by intro _ _ h; exact h) (hst : X.stack = X.env :: X.outer := by rfl) (hf : X.env.frame = some X.env.locals := by rfl) (hex : X.ex = [] := by rfl) (hc : X.calm = true := by rfl) (h1 : X.env.scope = psc := by rfl) (h2 : X.N = PN := by rfl) (S : compOkB scope psc N PN k cap = true := by decide +kernel)
    (hs : ∀ x, foldedSetIterable iter X.env x = pure x := by intro _; rfl) :
    PE X (.ListComp elt [⟨tg, iter, ifs, 0⟩] scope pos) (tComp wi tt tc te cap) := pe_compX hc (by rw [h1, h2]; exact compOk_of S) hi hg ht he hst hf hex hxe hs
end
end L2
set_option Elab.async false
set_option linter.all false
set_option maxRecDepth 100000
set_option maxHeartbeats 1000000
namespace L2
open PySem PySem.Spec PyProof.Rows
structure DnMX (P : Program) (w : World) (K : PySem.W.Frag) (mg : Str → Option Value) (base : Heap) (C : Addr) (m : Str) (n : Nat) (ps : List Str) (sp : Sp) : Prop where
  ex : ∃ f fd, FnOk P w K mg base (CXR P w) n f fd ps sp ∧ Meth K C m f ∧ Binds K fd ps []
section
variable {P : Program} {w : World} {K : PySem.W.Frag} {mg : Str → Option Value} {base : Heap}
theorem MeAt.okX {C : Addr} {m qual : Str} {st : Stmt} {N ps : List Str} {k : Nat} {sp : Sp} (F : MeAt K C m qual st ps) (S : FnScope N ps (defScope st)) (len : ∀ vs H Q E, sp vs H Q E → vs.length = ps.length)
    (hbody : ∀ (f : Addr) (cdv : Value) (A : Around) (outer : List Env) (s : Shared) (H : Hp) (vs : List V) (Q : VK) (E : XK), Room k (A.deeper (envOfC qual (defScope st) s.heap.objs.size f cdv)) → sp vs H Q E →
      ∃ t, PSs (cxR P w K mg base N qual (defScope st) f cdv A outer s H E) (defBody st) t ∧ t { nx := fun _ H' => Q .non H', rt := Q } (start N vs) H) : DnMX P w K mg base C m (k + 1) ps sp := by
  obtain ⟨f, fd, F, hm, hb⟩ := F.ex
  obtain ⟨oc, od, kV, doc, pm, an, cdv, ct, osl, rfl, lk, hcd⟩ := F.ex
  exact ⟨f, _, fn_of lk hcd S len fun A outer s H vs Q E hr hsp => hbody f cdv A outer s H vs Q E hr hsp, hm, hb⟩
end
section
variable {X : Cx} {E : XK}
theorem pe_dnMX {C : Addr} {m : Str} {n k : Nat} {ps : List Str} {sp : Sp} {o e : Expr} {es : List Expr} {ta : TE} {t : TA} {apos pos : Pos} {pl : Sem Bool} (hx : Passes (CXR X.prog X.w) X E) (cl : Cls X.K C) (D : DnMX X.prog X.w X.K X.mg X.base C m n ps sp) (hr : Room k X.A) (he : PE X o ta) (ha : PA X (e :: es) t) (hk : n ≤ k := by decide)
    (hst : starEach (e :: es) X.env = (false, eval e X.env) :: starEach es X.env := by rfl) (hpl : (backTo pos (starEach es X.env)).any (·.1) = false := by rfl)
    (ht : eval (.Call (.Attribute o m apos) (e :: es) [] pos) X.env = (do
      let ov ← eval o X.env
      standAt apos.atName
      let (f, first) ← holding [ov] (getMethod ov m pl)
      callWith pos f first (backTo pos (starEach (e :: es) X.env)) (backToKw pos (keywordEach [] X.env))) := by rfl) :
    PE X (.Call (.Attribute o m apos) (e :: es) [] pos) (tMeth C m sp [] E ta t) := by
  obtain ⟨f, fd, F, hm, hb⟩ := D.ex
  exact pe_meth he cl hm F (hr.mono hk) hb .nil hx ha hst hpl ht
end
end L2
set_option Elab.async false
set_option linter.all false
set_option maxRecDepth 100000
set_option maxHeartbeats 1000000
namespace L2
open PySem PySem.Spec PyProof.Rows
abbrev ExAt (X : Cx) (pins : List (Addr × Obj)) (σ : St) (E : XK) : Value → Shared → Prop := fun x s' => ∃ H1 s1, Inv X pins σ H1 s1 ∧ CXR X.prog X.w X.stack H1 s1 E x s'
def PEx (X : Cx) (e : Expr) (te : XK → TE) : Prop := ∀ (pins : List (Addr × Obj)) (s : Shared) (σ : St) (H : Hp) (Q : VK) (E : XK), Inv X pins σ H s → te E σ H Q → wpAny (model X.prog X.w) X.A (eval e X.env) (EP X pins σ Q) (ExAt X pins σ E) s
abbrev TX := Ends → (St → XK) → St → Hp → Prop
def PX (X : Cx) (st : Stmt) (t : TX) : Prop := ∀ (pins : List (Addr × Obj)) (s : Shared) (σ : St) (H : Hp) (D : Ends) (Ex : St → XK), Inv X pins σ H s → t D Ex σ H → wpAny (model X.prog X.w) X.A (exec st X.env) (SP X pins D) (fun x s' => ∃ σ', ExAt X pins σ' (Ex σ') x s') s
section
variable {X : Cx} {k n : Nat} {f C : Addr} {fd : FuncData} {ps fs : List Str} {sp : Sp} {x m : Str} {p pos apos : Pos} {e o : Expr} {es : List Expr} {ta : TE} {t : TA}
theorem pex_dnM {pl : Sem Bool} (cl : Cls X.K C) (D : DnMX X.prog X.w X.K X.mg X.base C m n ps sp) (hr : Room k X.A) (he : PE X.nox o ta) (ha : PA X.nox (e :: es) t) (hk : n ≤ k := by decide)
    (hst : starEach (e :: es) X.env = (false, eval e X.env) :: starEach es X.env := by rfl) (hpl : (backTo pos (starEach es X.env)).any (·.1) = false := by rfl)
    (ht : eval (.Call (.Attribute o m apos) (e :: es) [] pos) X.env = (do
      let ov ← eval o X.env
      standAt apos.atName
      let (f, first) ← holding [ov] (getMethod ov m pl)
      callWith pos f first (backTo pos (starEach (e :: es) X.env)) (backToKw pos (keywordEach [] X.env))) := by rfl) :
    PEx X (.Call (.Attribute o m apos) (e :: es) [] pos) (fun E σ H Q => ta σ H fun x H1 => ∃ a dx fs, x = .ref a ∧ H1 a = some (.ins C dx fs) ∧ fs.lookup m = none ∧ t σ H1 fun vs H2 => sp (x :: vs) H2 Q E) := by
  intro pins s σ H Q E I h
  obtain ⟨f, fd, F, hm, hb⟩ := D.ex
  refine PySem.W.methodCall_KW (pl := pl) (wpAny_mono (he pins s σ H _ (I.wish _) h) (fun u s1 hm0 => ?_) fun _ _ z => False.elim z) ht
  obtain ⟨x, H1, J1, rx, a, dx, fs, ex, ea, l, q⟩ := hm0
  have I1 : Inv X pins σ H1 s1 := J1.unwish
  subst ex
  obtain rfl : u = Value.ref a := rx
  refine getmeth_ok I1 ea cl hm l ?_
  refine PySem.W.callWith_K (first := [.ref a]) (h₀ := X.base) I.ok.mod.kin hm.kp (wpAny_mono (ha pos pins s1 σ H1 _ (I1.wish _) q) (fun us s2 hm0 => ?_) fun _ _ z => False.elim z) hst hpl
  obtain ⟨vs, H2, J2, r, q2⟩ := hm0
  have I2 : Inv X pins σ H2 s2 := J2.unwish
  exact ⟨I2.kIn, run_fnT (us := .ref a :: us) (vs := .ref a :: vs) F (hr.mono hk) hb I2 (fun _ _ z => ⟨H2, s2, I2, z⟩) (.cons rfl r) q2⟩
end
section
variable {X : Cx}
theorem px_expr {c : Expr} {te : XK → TE} {epos : Pos} (he : PEx X c te) (hsw : swapsWith c none epos.line X.env = pure false := by rfl) : PX X (.Expr c epos) (fun D Ex σ H => te (Ex σ) σ H fun _ H1 => D.nx σ H1) := by
  intro pins s σ H D Ex I h
  refine wpAny_Expr_any (wpAny_mono (he pins s σ H _ (Ex σ) I h) (fun v s1 z => ?_) fun x s' z => ⟨σ, z⟩) I.quiet hsw
  obtain ⟨u, H1, I1, r1, q1⟩ := z
  exact ⟨σ, H1, I1, q1⟩
end
end L2
set_option Elab.async false
set_option linter.all false
set_option maxRecDepth 100000
set_option maxHeartbeats 1000000
namespace L2
open PySem PySem.Spec PyProof.Rows
end L2
set_option Elab.async false
set_option linter.all false
set_option maxRecDepth 100000
namespace L2
open PySem PySem.W PySem.Calls PyProof.Rows
def topRunT (tb : String → Option Builtin) (p : Program) (w : World) (n₀ : Nat) (ann : Option Value) : Nat → SharedT → Thread → Option SharedT
  | 0, _, _ => none
  | n + 1, s, t => match through t with
    | true => some s
    | false => match stepOk n₀ ann t with
      | false => none
      | true => match stepT (denote tb) p w s t with
        | some (s', t') => topRunT tb p w n₀ ann n s' t'
        | none => none
theorem topRun_of {tb : String → Option Builtin} {p : Program} {w : World} {n₀ : Nat} {ann : Option Value} : ∀ {n : Nat} {s s' : SharedT} {t : Thread}, topRunT tb p w n₀ ann n s t = some s' → topRun tb p w n₀ ann n s.abs t = some s'.abs
  | 0, _, _, _, h => by cases h
  | n + 1, s, s', t, h => by
    unfold topRunT at h
    unfold topRun
    cases he : through t with
    | true => rw [he] at h; cases h; rfl
    | false =>
      rw [he] at h
      cases hk : stepOk n₀ ann t with
      | false => rw [hk] at h; cases h
      | true =>
        rw [hk] at h
        cases hs : stepT (denote tb) p w s t with
        | none => rw [hs] at h; cases h
        | some r => obtain ⟨s₂, t₂⟩ := r; rw [hs] at h; rw [stepT_spec hs]; exact topRun_of h
noncomputable def topRunQ (p : Program) (w : World) (n₀ : Nat) (ann : Option Value) : Nat → SharedT → Thread → Option SharedT
  | 0, _, _ => none
  | n + 1, s, t => match through t with
    | true => some s
    | false => match PySem.W.Fast.tw6613529449190102663 n₀ ann t with
      | false => none
      | true => match PySem.W.Fast.tw10156331382660048174 (PySem.W.Fast.tw11892475500146522536 PySem.W.Fast.tw14364793385576792824) p w s t with
        | some (s', t') => topRunQ p w n₀ ann n s' t'
        | none => none
theorem topRunQ_eq {p : Program} {w : World} {n₀ : Nat} {ann : Option Value} : ∀ (n : Nat) (s : SharedT) (t : Thread), topRunQ p w n₀ ann n s t = topRunT treeTable p w n₀ ann n s t
  | 0, _, _ => rfl
  | n + 1, s, t => by
    unfold topRunQ topRunT
    rw [← PySem.W.Fast.te6613529449190102663, ← PySem.W.Fast.te10156331382660048174, ← PySem.W.Fast.te11892475500146522536, ← PySem.W.Fast.te14364793385576792824]
    cases through t with
    | true => rfl
    | false =>
      dsimp only
      cases stepOk n₀ ann t with
      | false => rfl
      | true =>
        dsimp only
        cases stepT (denote treeTable) p w s t with
        | none => rfl
        | some r => exact topRunQ_eq n r.1 r.2
def treeOf : List Obj → Nat → BT → BT
  | [], _, t => t
  | o :: l, n, t => treeOf l (n + 1) (t.ins n o)
noncomputable def boot_tree (P : Params) : BT := treeOf (boot_heap P).objs.toList 0 .nil
noncomputable def topLook {α : Type} (p q : Program) (loose : List Str) (Xt : Shared → Bool) (g0 : Bool) (Yf : Shared → α) (H : Heap) (s : Shared) :=
  ((staticsOk (importedModules p.main.body) H s.heap && namesBound p s.heap && gensDone s && laidKept H s.heap), PySem.W.Fast.tw4187177175401517315 q loose (importedModules p.main.body) Xt g0 s, Yf s)
theorem left_tree {p q : Program} {loose : List Str} {Xt : Shared → Bool} {α : Type} {Yf : Shared → α} {Ya : World → α} {N : Nat} {g0 : Bool} {H₀ : Params → Heap} {gs₀ : Array GenState} {d₀ : Drawn} {k₀ : Nat} {m₀ : Nat} {ann : Option Value} {M : Nat} {T₀ : Params → BT} {n₀ : Nat} {life : Life}
    (open_ : ∀ w : World, (fencedOpening treeTable p w N).map (fun s => (s.heap, s.gens, s.drawn, s.toks)) = some (H₀ w.params, gs₀, d₀, k₀))
    (size : ∀ w : World, ((H₀ w.params).isNs mainGlobals && gs₀.size == 0, (H₀ w.params).objs.size, (H₀ w.params).nsMap mainGlobals "__annotations__") = (true, m₀, ann))
    (tree : ∀ P : Params, absHeap (T₀ P) n₀ life = H₀ P)
    (run : ∀ (w : World) (os : OsState), (topRunQ p w m₀ ann M ⟨T₀ w.params, n₀, life, gs₀, d₀, k₀, os⟩ (topStub p)).map (fun r => topLook p q loose Xt g0 Yf (H₀ w.params) r.abs) = some (true, openGood q loose, Ya w))
    (le : Nat.ble M N = true) : LeftO p q loose Xt Yf Ya N g0 := fun w => by
  obtain ⟨⟨h, gs, d, k, os⟩, e, e'⟩ := Option.map_eq_some_iff.mp (open_ w)
  obtain ⟨rfl, rfl, rfl, rfl⟩ : h = H₀ w.params ∧ gs = gs₀ ∧ d = d₀ ∧ k = k₀ := by simpa using e'
  obtain ⟨z1, z2, z3⟩ : _ ∧ _ ∧ _ := by simpa only [Prod.mk.injEq] using size w
  obtain ⟨r, hr, hl⟩ := Option.map_eq_some_iff.mp (run w os)
  obtain ⟨l1, l2, l3⟩ : _ ∧ _ ∧ _ := by simpa only [topLook, ← PySem.W.Fast.te4187177175401517315, Prod.mk.injEq] using hl
  rw [topRunQ_eq] at hr
  have r2 := topRun_of hr
  have ea : SharedT.abs ⟨T₀ w.params, n₀, life, gs, d, k, os⟩ = ⟨H₀ w.params, gs, d, k, os⟩ := by
    unfold SharedT.abs
    rw [tree]
  rw [ea] at r2
  have r3 := topRun_mono (N - M) _ _ _ _ r2
  rw [show M + (N - M) = N by have := Nat.le_of_ble_eq_true le; omega] at r3
  have t : topFrom treeTable p w N ⟨H₀ w.params, gs, d, k, os⟩ = some r.abs := by
    unfold topFrom
    dsimp only
    rw [z1, z2, z3, r3]
    show (match staticsOk (importedModules p.main.body) (H₀ w.params) r.abs.heap && namesBound p r.abs.heap && gensDone r.abs && laidKept (H₀ w.params) r.abs.heap with | true => _ | false => _) = _
    rw [l1]
  unfold openEnds
  rw [e]
  show (topFrom treeTable p w N _).map _ = _
  rw [t]
  exact congrArg some (Prod.ext l2 l3)
end L2
set_option Elab.async false
set_option linter.all false
set_option maxRecDepth 100000
set_option maxHeartbeats 1000000
namespace L2
open PySem PySem.W PySem.Calls PyProof.Rows
def partOf (as : List Addr) (h : Heap) : Frag := as.filterMap fun a => (h.get? a).map fun o => (a, o)
theorem partOf_in (h : Heap) : ∀ as : List Addr, (partOf as h).In h
  | [], a, o, e => by cases e
  | b :: l, a, o, e => by
    unfold partOf at e
    rw [List.filterMap_cons] at e
    cases hb : h.get? b with
    | none => rw [hb] at e; exact partOf_in h l a o e
    | some x =>
      rw [hb] at e
      have e : List.lookup a ((b, x) :: l.filterMap fun a => (h.get? a).map fun o => (a, o)) = some o := e
      rw [List.lookup_cons] at e
      cases q : a == b with
      | true =>
        rw [q] at e
        have eab : a = b := eq_of_beq q
        have e : some x = some o := e
        rw [eab, hb, e]
      | false => rw [q] at e; exact partOf_in h l a o e
def posOf (s : Stmt) : Pos := match s with
  | .FunctionDef _ _ _ _ _ _ _ _ _ p => p
  | _ => ⟨0, 0, 0, 0⟩
def dfOf (K : Frag) : Value → Option (Option (List Value))
  | .none => some none
  | .ref T => match K.lookup T with
    | some ⟨_, _, .seq vs _, _⟩ => some (some vs.toList)
    | _ => none
  | _ => none
abbrev Sig := (Str × Str × Addr × List (Str × Addr) × Option (Option (List Value)) × Addr) × (Bool × Bool) × Arguments × FuncBody × Scope
def fnLook (K : Frag) (v : Option (Option Value)) (qual : Str) : Option Sig := match v with
  | some (some (.ref f)) => match K.lookup f with
    | some ⟨_, _, .func fd, _⟩ => some ((fd.name, fd.qualname, fd.globals, fd.closure, dfOf K fd.defaults, fd.builtins), (codeIn K fd.code qual, isFn K (.ref f)), fd.params, fd.body, fd.scope)
    | _ => none
  | _ => none
def sigW (x qual : Str) (st : Stmt) (df : Option (List Value)) : Sig := ((x, qual, mainGlobals, [], some df, builtinsNs), (true, true), defArgs st, .stmts (defBody st), defScope st)
theorem keep_fn {K : Frag} {f : Addr} {oc : Value} {od : Option Addr} {fd : FuncData} {sl : Array (Option Value)} (l : K.lookup f = some ⟨oc, od, .func fd, sl⟩) : keepIn K (.ref f) = true := by
  unfold keepIn
  simp only [l]
theorem fnLook_ex {K : Frag} {v : Option (Option Value)} {x qual : Str} {st : Stmt} {df : Option (List Value)} (e : fnLook K v qual = some (sigW x qual st df)) :
    ∃ (f : Addr) (oc : Value) (od : Option Addr) (dV kV doc pm : Value) (an : Option Addr) (cdv ct : Value) (sl : Array (Option Value)), v = some (some (.ref f)) ∧ K.lookup f = some ⟨oc, od, .func (fnOf x qual (defArgs st) (defBody st) (defScope st) dV kV doc pm an cdv ct), sl⟩ ∧
      codeIn K cdv qual = true ∧ isFn K (.ref f) = true ∧ dfOf K dV = some df := by
  unfold fnLook at e
  split at e
  · rename_i f
    split at e
    · rename_i oc od fd sl hl
      obtain ⟨nm, qn, ps, bd, sc, gl, cl, dV, kV, doc, pm, an, cd, ct, bl⟩ := fd
      injection e with e
      injection e with e1 e2
      injection e1 with a1 e1
      injection e1 with a2 e1
      injection e1 with a3 e1
      injection e1 with a4 e1
      injection e1 with a5 a6
      injection e2 with e3 e4
      injection e3 with b1 b2
      injection e4 with c1 e4
      injection e4 with c2 c3
      dsimp only at a1 a2 a3 a4 a5 a6 b1 b2 c1 c2 c3
      subst a1 a2 a3 a4 a6 c1 c2 c3
      exact ⟨f, oc, od, dV, kV, doc, pm, an, cd, ct, sl, rfl, hl, b1, b2, a5⟩
    · cases e
  · cases e
theorem dfOf_none {K : Frag} {v : Value} (e : dfOf K v = some none) : v = .none := by
  unfold dfOf at e
  split at e
  · rfl
  · split at e <;> cases e
  · cases e
theorem fnLook_fun {K : Frag} {v : Option (Option Value)} {x qual : Str} {st : Stmt} (e : fnLook K v qual = some (sigW x qual st none)) : ∃ f fd, v = some (some (.ref f)) ∧ Fun K x qual st f fd ∧ isFn K (.ref f) = true := by
  obtain ⟨f, oc, od, dV, kV, doc, pm, an, cdv, ct, sl, hv, l, c, i, d⟩ := fnLook_ex e
  obtain rfl := dfOf_none d
  exact ⟨f, _, hv, fun_mk l c (keep_fn l), i⟩
inductive Ky where
  | df (x : Str)
  | me (c m qual : Str)
def Ky.val (K : Frag) : Ky → Option (Option Value)
  | .df x => nsIn K mainGlobals x
  | .me c m _ => match nsIn K mainGlobals c with
    | some (some v) => findIn K v m
    | _ => none
def Ky.qual : Ky → Str
  | .df x => x
  | .me _ _ q => q
def Ky.nm : Ky → Str
  | .df x => x
  | .me _ m _ => m
def clsLook (K : Frag) (c : Str × List Str) : Option (Bool × Option (Option Value) × List (Option (Option Value))) := match nsIn K mainGlobals c.1 with
  | some (some (.ref C)) => some (plainGet K C Str.empty && hasDictIn K C && plainOver K C && makesIn K C && keepIn K (.ref C), findIn K (.ref C) "__setattr__", c.2.map fun f => findIn K (.ref C) f)
  | _ => none
def intLook (K : Frag) (x : Str) : Option Int := match nsIn K mainGlobals x with
  | some (some (.int v _)) => some v
  | _ => none
def strLook (K : Frag) (x : Str) : Option Str := match nsIn K mainGlobals x with
  | some (some (.str v _)) => some v
  | _ => none
def refLook {β : Type} (K : Frag) (x : Str) (g : Frag → Addr → β) : Option β := match nsIn K mainGlobals x with
  | some (some (.ref d)) => some (g K d)
  | _ => none
structure Asked (β : Type) where
  ks : List (Ky × Stmt × Option (List Value))
  cs : List (Str × List Str) := []
  is : List (Str × Int) := []
  ss : List (Str × Str) := []
  bs : List Str := []
  xc : Frag → Bool := fun _ => true
  ext : Frag → β
  extW : World → β
section
variable {β : Type} (A : Asked β)
def Asked.look (K : Frag) := (A.ks.map fun k => fnLook K (k.1.val K) k.1.qual, A.cs.map (clsLook K), A.is.map fun x => intLook K x.1, A.ss.map fun x => strLook K x.1, A.bs.map fun x => nsIn K mainGlobals x, A.xc K, A.ext K)
def Asked.want (w : World) := (A.ks.map fun k => some (sigW k.1.nm k.1.qual k.2.1 k.2.2), A.cs.map fun c => some (true, some (some (Value.builtin "object.__setattr__")), c.2.map fun _ => some (none : Option Value)), A.is.map fun x => some x.2, A.ss.map fun x => some x.2, A.bs.map fun _ => some (none : Option Value), true, A.extW w)
def Asked.Ok (w : World) (K : Frag) : Prop := A.look K = A.want w
end
theorem map_at {α γ : Type} {l : List α} {f g : α → γ} (e : l.map f = l.map g) {i : Nat} {a : α} (h : l[i]? = some a) : f a = g a := by
  have z := congrArg (fun l => l[i]?) e
  simp only [List.getElem?_map, h, Option.map_some] at z
  injection z
section
variable {β : Type} {A : Asked β} {w : World} {K : Frag} {h : Heap} {mg : Str → Option Value}
theorem Asked.Ok.fn (e : A.Ok w K) {i : Nat} {k : Ky} {st : Stmt} {df : Option (List Value)} (hi : A.ks[i]? = some (k, st, df)) : fnLook K (k.val K) k.qual = some (sigW k.nm k.qual st df) := map_at (f := fun k : Ky × Stmt × Option (List Value) => fnLook K (k.1.val K) k.1.qual) (g := fun k => some (sigW k.1.nm k.1.qual k.2.1 k.2.2)) (congrArg Prod.fst e) hi
theorem Asked.Ok.defAt (e : A.Ok w K) (X : K.In h) (G : h.Ns mainGlobals mg) (i : Nat) {x : Str} {st : Stmt} {ps : List Str} (hi : A.ks[i]? = some (.df x, st, none))
    (hb : ∀ (kV doc pm : Value) (an : Option Addr) (cdv ct : Value) (us : List Value), us.length = ps.length → bindArgs (fnOf x x (defArgs st) (defBody st) (defScope st) .none kV doc pm an cdv ct) ⟨us, []⟩ = pure (ps.zip us)) : DefAt K mg x st ps := by
  obtain ⟨f, fd, hv, F, _⟩ := fnLook_fun (e.fn hi)
  exact ⟨f, fd, F, mg_of X G hv, F.binds hb⟩
theorem Asked.Ok.law (e : A.Ok w K) (X : K.In h) (G : h.Ns mainGlobals mg) (i : Nat) {x : Str} {st : Stmt} {fa : Addr} (hi : A.ks[i]? = some (.df x, st, none)) (hm : mg x = some (.ref fa)) :
    ∃ kV doc pm an cdv ct, Fun K x x st fa (fnOf x x (defArgs st) (defBody st) (defScope st) .none kV doc pm an cdv ct) := by
  obtain ⟨f, oc, od, dV, kV, doc, pm, an, cdv, ct, sl, hv, l, c, _, d⟩ := fnLook_ex (e.fn hi)
  obtain rfl := dfOf_none d
  have z := hm.symm.trans (mg_of X G hv)
  injection z with z
  injection z with z
  subst z
  exact ⟨kV, doc, pm, an, cdv, ct, fun_mk l c (keep_fn l)⟩
theorem Asked.Ok.cls (e : A.Ok w K) (X : K.In h) (G : h.Ns mainGlobals mg) (i : Nat) {x : Str} {fs : List Str} (hi : A.cs[i]? = some (x, fs)) : ∃ C, nsIn K mainGlobals x = some (some (.ref C)) ∧ makesIn K C = true ∧ keepIn K (.ref C) = true ∧ ClsAt K mg x C fs := by
  have z := map_at (f := clsLook K) (g := fun c => some (true, some (some (Value.builtin "object.__setattr__")), c.2.map fun _ => some (none : Option Value))) (congrArg (fun p => p.2.1) e) hi
  unfold clsLook at z
  split at z
  · rename_i C hC
    injection z with z
    injection z with z1 z2
    injection z2 with z2 z3
    simp only [Bool.and_eq_true] at z1
    obtain ⟨⟨⟨⟨g1, g2⟩, g3⟩, g4⟩, g5⟩ := z1
    refine ⟨C, hC, g4, g5, ⟨g1, g2, g3, z2⟩, mg_of X G hC, fun f hf => ?_⟩
    obtain ⟨j, hj⟩ := List.mem_iff_getElem?.mp hf
    exact map_at (f := fun f => findIn K (.ref C) f) (g := fun _ => some (none : Option Value)) z3 hj
  · cases z
theorem Asked.Ok.meAt (e : A.Ok w K) (i : Nat) {c m qual : Str} {C : Addr} {st : Stmt} {ps : List Str} (hC : nsIn K mainGlobals c = some (some (.ref C))) (hi : A.ks[i]? = some (.me c m qual, st, none))
    (hb : ∀ (kV doc pm : Value) (an : Option Addr) (cdv ct : Value) (us : List Value), us.length = ps.length → bindArgs (fnOf m qual (defArgs st) (defBody st) (defScope st) .none kV doc pm an cdv ct) ⟨us, []⟩ = pure (ps.zip us)) : MeAt K C m qual st ps := by
  obtain ⟨f, fd, hv, F, i⟩ := fnLook_fun (e.fn hi)
  have hv : (match nsIn K mainGlobals c with | some (some v) => findIn K v m | _ => none) = some (some (.ref f)) := hv
  rw [hC] at hv
  exact ⟨f, fd, F, ⟨hv, i, F.kp⟩, F.binds hb⟩
theorem Asked.Ok.mkAt (e : A.Ok w K) (i : Nat) {c qual : Str} {C : Addr} {st : Stmt} {ps : List Str} (hC : nsIn K mainGlobals c = some (some (.ref C))) (hm : makesIn K C = true) (hk : keepIn K (.ref C) = true) (hi : A.ks[i]? = some (.me c "__init__" qual, st, none))
    (hb : ∀ (kV doc pm : Value) (an : Option Addr) (cdv ct : Value) (us : List Value), us.length = ps.length → bindArgs (fnOf "__init__" qual (defArgs st) (defBody st) (defScope st) .none kV doc pm an cdv ct) ⟨us, []⟩ = pure (ps.zip us)) : MkAt K C qual st ps := by
  obtain ⟨f, fd, hv, F, i⟩ := fnLook_fun (e.fn hi)
  have hv : (match nsIn K mainGlobals c with | some (some v) => findIn K v "__init__" | _ => none) = some (some (.ref f)) := hv
  rw [hC] at hv
  exact ⟨f, fd, F, ⟨hm, hv, i, hk⟩, F.binds hb⟩
theorem Asked.Ok.noneAt (e : A.Ok w K) (X : K.In h) (G : h.Ns mainGlobals mg) (i : Nat) {x : Str} (hi : A.bs[i]? = some x) : mg x = Option.none :=
  mg_none_of X G (map_at (f := fun x => nsIn K mainGlobals x) (g := fun _ => some (none : Option Value)) (congrArg (fun p => p.2.2.2.2.1) e) hi)
theorem Asked.Ok.exc (e : A.Ok w K) : A.xc K = true := congrArg (fun p => p.2.2.2.2.2.1) e
theorem Asked.Ok.more (e : A.Ok w K) : A.ext K = A.extW w := congrArg (fun p => p.2.2.2.2.2.2) e
theorem refLook_at {γ : Type} {x : Str} {g : Frag → Addr → γ} {v : γ} (X : K.In h) (G : h.Ns mainGlobals mg) (e : refLook K x g = some v) : ∃ d, mg x = some (.ref d) ∧ g K d = v := by
  unfold refLook at e
  split at e
  · rename_i d hC
    injection e with e
    exact ⟨d, mg_of X G hC, e⟩
  · cases e
end
theorem walk_ex {l : OpenLaw} {n k : Nat} {q : Program} {loose : List Str} {XP : (Str → Option Value) → Heap → Prop} {d : DefRec} {Fc : World → Frag → Prop} {sp : Frag → Sp} {x nm : Str}
    (hn : l.most = some n) (hn2 : n ≤ sizeLine) (hdf : d.params.defaults = []) (hr : Room k callerA) (hnm : d.name = nm)
    (F : ∀ (w : World) (K : Frag) (mg : Str → Option Value) (fa : Addr) (h : Heap), Fc w K → K.In h → h.Ns mainGlobals mg → mg nm = some (.ref fa) →
      ∃ fd : FuncData, (∀ (s : Shared) (u : Value), BindsTo s fd ⟨[u], []⟩ [(x, u)]) ∧ ∀ base : Heap, K.In base → base.Ns mainGlobals mg → FnOk l.prog w K mg base CX0 k fa fd [x] (sp K))
    (hsp : ∀ (K : Frag) (H : Hp) (a : Addr) (ns : List Int), ns.length ≤ n → Only H → SqL K H a (ns.map V.int) → sp K [.ref a] H (fun v _ => v = .bl true) fun _ _ _ => False)
    (hCX : ∀ (H : Hp) (s : Shared) (e : Value) (s' : Shared), CX0 [] H s (fun _ _ _ => False) e s' → False) :
    WalkO q loose XP (fun w h => ∃ K : Frag, K.In h ∧ Fc w K) l.row.toRowW d [] (fun f vs => PySem.call f vs) := by
  refine Att.attach_call hn hdf fun w s₀ s₁ mg mb fa o pm cd doc a vs ns G Y ho hd hcd hmg hobj hints hlen hg => ?_
  obtain ⟨K, KX, fc⟩ := Y
  rw [hnm] at hmg
  obtain ⟨fd, hb, hF⟩ := F w K mg fa _ fc KX G.T.g hmg
  exact law_call KX G.T.g G.T.b G.T.builtins G.T.nolimit hg hobj hints (Nat.le_trans hlen hn2) hr hF hb (fun H hO hS => hsp K H a ns hlen hO hS) fun H e s' => hCX H s₁ e s'
end L2
set_option Elab.async false
set_option linter.all false
set_option maxRecDepth 100000
set_option maxHeartbeats 1000000
namespace L2
open PySem PySem.W PySem.Calls PyProof.Rows
section
variable {w : World} {K : Frag} {h : Heap} {mg : Str → Option Value} {x : Str}
end
end L2
set_option Elab.async false
set_option linter.all false
set_option maxRecDepth 100000
set_option maxHeartbeats 1000000
namespace L2
open PySem PySem.Spec PyProof.Rows
theorem lk_ne {k k' : Str} {v : V} {r : List (Str × V)} (h : ¬ k = k') : List.lookup k ((k', v) :: r) = List.lookup k r := by
  rw [List.lookup_cons, beq_false_of_ne h]
theorem lk_eq {k : Str} {v : V} {r : List (Str × V)} : List.lookup k ((k, v) :: r) = some v := by
  rw [List.lookup_cons, beq_self_eq_true]
theorem pf_ne {f k : Str} {v x : V} {r : List (Str × V)} (h : ¬ k = f) : putF f v ((k, x) :: r) = (k, x) :: putF f v r := if_neg h
theorem pf_eq {f : Str} {v x : V} {r : List (Str × V)} : putF f v ((f, x) :: r) = (f, v) :: r := if_pos rfl
end L2
set_option Elab.async false
set_option linter.all false
set_option maxRecDepth 100000
set_option maxHeartbeats 1000000
namespace L2
open PySem PySem.Spec PyProof.Rows
section
variable {X : Cx} {pos : Pos}
def gLst (K : PySem.W.Frag) (n : Nat) (t : TGs) : TG := fun v σ H Q => ∃ a xs, v = .ref a ∧ SqL K H a xs ∧ xs.length = n ∧ t xs σ H Q
theorem pg_lst {es : List Expr} {k : Nat} {t : TGs} {n : Nat} (hc : X.calm = true) (h : PGs X es t)
    (hn : (assignEach es X.env).length = n := by rfl) (hst : (assignEach es X.env).findIdx? (·.1) = none := by rfl) : PG X (.Tuple es k pos) (gLst X.K n t) := by
  intro pins s σ H v u Q I r hw
  obtain ⟨a, xs, e1, hq, hl, hw⟩ := hw
  subst e1
  cases r
  obtain ⟨its, rv, ht, hz⟩ := I.list hq
  rw [assign_Tuple]
  refine wpAny_bind (wpAny_standAt ?_)
  unfold unpack
  have e : (assignEach es X.env).length = its.toArray.size := by simp [hn, ← hl, rv.length]
  rw [e, hst]
  refine wpAny_bind (wpAny_holding (PySem.W.kun_itemsOf (I.ok.hd hc) ht.isList fun h' hx => ?_))
  have I1 : Inv X pins σ H { s with heap := h' } := I.kept (t' := s.toks) fun b o e => hx b o (Nat.ne_of_lt (Heap.lt_size e)) e
  exact h pins _ σ H xs _ Q I1 (by simpa using rv) hw
end
section
variable {X : Cx} {pins : List (Addr × Obj)} {σ : St} {H : Hp} {s : Shared}
theorem caughtU {s' : Shared} {e : Value} {E : XK} {D : Ends} {g : Str} {G : Addr} {b0 : Stmt} {suite : List Stmt} {hpos np : Pos} {th : TS} (I : Inv X pins σ H s) (hst : X.stack = X.env :: X.outer) (hf : X.env.frame = some X.env.locals) (hc : X.calm = true)
    (hg : Gl X g) (hm : X.mg g = some (.ref G)) (hs : ∀ ea, PSs (X.suite ea) (b0 :: suite) th) (hdb : (g == ("__debug__" : Str)) = false)
    (hx : CXR X.prog X.w X.stack H s E e s')
    (hE : ∀ C H', E (.ref C) none H' → PySem.W.exmOne X.K (.ref C) (.ref G) = some true ∧ ∀ ea, H' ea = none → th D σ (upd H' ea (xcO ea C))) :
    wpAny (model X.prog X.w) X.A (noteFrame e X.env) (fun _ s2 => wpAny (model X.prog X.w) X.A (setFlight e none) (fun _ s3 => wpAny (model X.prog X.w) X.A (handleBy e X.env [.ExceptHandler (some (.Name g np)) none (b0 :: suite) hpos]) (SP X pins D) X.xe s3) X.xe s2) X.xe s' := by
  obtain ⟨ea, C, t, H', B, rfl, os, bare, un, hok, fl, b1, b2, hw⟩ := hx
  obtain ⟨hm1, hth⟩ := hE C H' hw
  have fl0 := fl
  rw [hst] at fl0
  have hh := I.ok.hd hc
  refine wpAny_looks_onW (hst ▸ I.ok.frames) hf fl0 fun h4 held u4 => ?_
  refine wpAny_landsW held fun h5 fl5 u5 => ?_
  rw [← hst] at fl5
  obtain ⟨hea, I5⟩ := fly_inv I os bare un hok fl b1 b2 fl5 (u4.trans u5)
  refine wpAny_handleBy_cons (codeAny_handlers_test (ld_glob (X := X.suite ea) (I5.suite ea) hg hm ?_ hdb)) (by intro q; cases q)
  refine (PySem.W.exm_one I5.kIn (fly_obj fl5).ty hm1).here ?_
  refine codeAny_handlers_suite ?_
  refine lands_againW fl5 fun h6 fl6 u6 => ?_
  obtain ⟨_, I6⟩ := fly_inv I os bare un hok fl b1 b2 fl6 ((u4.trans u5).trans u6)
  refine wpAny_mono (hs ea pins _ _ _ _ (I6.suite ea) (hth ea hea)) (fun f s8 q8 => ?_) fun _ _ z => False.elim z
  cases f with
  | next => obtain ⟨σ', H2, J, q⟩ := q8; exact ⟨_, H2, J.unsuite hh, q⟩
  | brk => obtain ⟨σ', H2, J, q⟩ := q8; exact ⟨_, H2, J.unsuite hh, q⟩
  | cont => obtain ⟨σ', H2, J, q⟩ := q8; exact ⟨_, H2, J.unsuite hh, q⟩
  | ret u => obtain ⟨v, σ', H2, J, r, q⟩ := q8; exact ⟨v, _, H2, J.unsuite hh, r, q⟩
end
def exTryU (K : PySem.W.Frag) (G : Addr) (th : TS) (D : Ends) (σ : St) : XK := fun c _ H' => ∃ C, c = .ref C ∧ PySem.W.exmOne K (.ref C) (.ref G) = some true ∧ ∀ ea, H' ea = none → th D σ (upd H' ea (xcO ea C))
section
variable {X : Cx}
theorem ps_tryU {st : Stmt} {t : TX} {th : TS} {g : Str} {G : Addr} {b0 : Stmt} {suite : List Stmt} {np hpos tpos : Pos} (hb : PX X st t) (hmg : X.mg g = some (.ref G)) (hs : ∀ ea, PSs (X.suite ea) (b0 :: suite) th)
    (hc : X.calm = true := by rfl) (hst : X.stack = X.env :: X.outer := by rfl) (hf : X.env.frame = some X.env.locals := by rfl) (hgg : Gl X g := by rfl) (hdg : (g == ("__debug__" : Str)) = false := by decide) :
    PS X (.Try [st] [.ExceptHandler (some (.Name g np)) none (b0 :: suite) hpos] [] [] tpos) (fun D σ H => t D (fun σ' => exTryU X.K G th D σ') σ H) := by
  intro pins s σ H D0 I h
  refine wpAny_Try_except (wpAny_execs_cons (wpAny_mono (hb pins s σ H D0 _ I h) (fun f s1 z => ?_) fun x s' z => ?_))
  · cases f with
    | next => exact wpAny_execs_nil (wpAny_execs_nil z)
    | _ => exact z
  · obtain ⟨σ', H1, s1, J, z⟩ := z
    exact caughtU (D := D0) J hst hf hc hgg hmg hs hdg z fun C H' ⟨C', e1, q1, q2⟩ => by cases e1; exact ⟨q1, q2⟩
end
def exsB (K : PySem.W.Frag) (C : Addr) : Bool := PySem.W.exmOne K (.ref C) (.ref C) == some true
end L2
set_option Elab.async false
set_option linter.all false
set_option maxRecDepth 100000
set_option maxHeartbeats 4000000
namespace Law
open PySem L2
def top (i : Nat) : Stmt := PySem.Challenge.pw_rankgarth_k48_refused_machines.main.body.getD i (.Pass ⟨0, 0, 0, 0⟩)
abbrev s_is_whole : Stmt := top 17
abbrev s_is_place : Stmt := top 18
abbrev s_check_machine_row : Stmt := top 20
abbrev s_check_machine : Stmt := top 21
abbrev s_machine_of : Stmt := top 22
abbrev s_told : Stmt := top 24
abbrev s_law_at : Stmt := top 26
abbrev s_law_rows : Stmt := top 27
abbrev s_law_is_other : Stmt := top 28
abbrev s_law_no_machine : Stmt := top 29
abbrev s_law_no_ask : Stmt := top 30
abbrev s_law_no_step : Stmt := top 31
abbrev s_law_spoiled : Stmt := top 32
abbrev s_law_asks : Stmt := top 33
abbrev s_law_wrong_ask : Stmt := top 34
abbrev s_law_walked : Stmt := top 35
abbrev s_law_runs : Stmt := top 36
abbrev s_law : Stmt := top 37
abbrev s_Runner___init__ : Stmt := inClass (top 23) 0
abbrev s_Runner_step : Stmt := inClass (top 23) 1
structure Txt (mg : Str → Option Value) : Prop where
  b_ValueError : mg "ValueError" = none
  b_any : mg "any" = none
  b_bool : mg "bool" = none
  b_int : mg "int" = none
  b_isinstance : mg "isinstance" = none
  b_len : mg "len" = none
  b_list : mg "list" = none
  b_range : mg "range" = none
  b_tuple : mg "tuple" = none
abbrev xRs : List Str := ["NoMachine", "NoAsk"]
abbrev xNs : List Str := ["NoAmount", "NoAsk", "NoHand", "NoMachine", "NoMove", "NoName", "NoPlace", "NoRank", "NoRow", "NoRule", "NoText", "NoWay", "NoWish", "TooMany"]
theorem sc_is_whole : FnScope ["value"] ["value"] (defScope s_is_whole) := ⟨rfl, rfl, rfl, by decide +kernel, rfl, by decide +kernel, by decide +kernel⟩
theorem sc_is_place : FnScope ["value", "count"] ["value", "count"] (defScope s_is_place) := ⟨rfl, rfl, rfl, by decide +kernel, rfl, by decide +kernel, by decide +kernel⟩
theorem sc_check_machine_row : FnScope ["row", "asks", "states", "step"] ["row", "asks", "states"] (defScope s_check_machine_row) := ⟨rfl, rfl, rfl, by decide +kernel, rfl, by decide +kernel, by decide +kernel⟩
theorem sc_check_machine : FnScope ["start", "rows", "row"] ["start", "rows"] (defScope s_check_machine) := ⟨rfl, rfl, rfl, by decide +kernel, rfl, by decide +kernel, by decide +kernel⟩
theorem sc_machine_of : FnScope ["start", "rows"] ["start", "rows"] (defScope s_machine_of) := ⟨rfl, rfl, rfl, by decide +kernel, rfl, by decide +kernel, by decide +kernel⟩
theorem sc_told : FnScope ["machine", "asks", "runner"] ["machine", "asks"] (defScope s_told) := ⟨rfl, rfl, rfl, by decide +kernel, rfl, by decide +kernel, by decide +kernel⟩
theorem sc_law_at : FnScope ["_law_script", "_law_k", "_law_mixed"] ["_law_script", "_law_k"] (defScope s_law_at) := ⟨rfl, rfl, rfl, by decide +kernel, rfl, by decide +kernel, by decide +kernel⟩
theorem sc_law_rows : FnScope ["_law_script", "_law_states", "_law_asks_here", "_law_rows_here", "_law_s", "_law_row", "_law_a", "_law_cell"] ["_law_script", "_law_states", "_law_asks_here"] (defScope s_law_rows) := ⟨rfl, rfl, rfl, by decide +kernel, rfl, by decide +kernel, by decide +kernel⟩
theorem sc_law_is_other : FnScope ["_law_error", "_law_others"] ["_law_error"] (defScope s_law_is_other) := ⟨rfl, rfl, rfl, by decide +kernel, rfl, by decide +kernel, by decide +kernel⟩
theorem sc_law_no_machine : FnScope ["_law_start", "_law_rows_here", "_law_caught", "_law_error"] ["_law_start", "_law_rows_here"] (defScope s_law_no_machine) := ⟨rfl, rfl, rfl, by decide +kernel, rfl, by decide +kernel, by decide +kernel⟩
theorem sc_law_no_ask : FnScope ["_law_machine", "_law_asked", "_law_caught", "_law_error"] ["_law_machine", "_law_asked"] (defScope s_law_no_ask) := ⟨rfl, rfl, rfl, by decide +kernel, rfl, by decide +kernel, by decide +kernel⟩
theorem sc_law_no_step : FnScope ["_law_runner", "_law_ask", "_law_refused"] ["_law_runner", "_law_ask"] (defScope s_law_no_step) := ⟨rfl, rfl, rfl, by decide +kernel, rfl, by decide +kernel, by decide +kernel⟩
theorem sc_law_spoiled : FnScope ["_law_script", "_law_start", "_law_rows_here", "_law_states", "_law_far", "_law_wrong", "_law_way", "_law_place", "_law_row", "_law_ask"] ["_law_script", "_law_start", "_law_rows_here"] (defScope s_law_spoiled) := ⟨rfl, rfl, rfl, by decide +kernel, rfl, by decide +kernel, by decide +kernel⟩
theorem sc_law_asks : FnScope ["_law_script", "_law_asks_here"] ["_law_script", "_law_asks_here"] (defScope s_law_asks) := ⟨rfl, rfl, rfl, by decide +kernel, rfl, by decide +kernel, by decide +kernel⟩
theorem sc_law_wrong_ask : FnScope ["_law_script", "_law_asks_here", "_law_far"] ["_law_script", "_law_asks_here"] (defScope s_law_wrong_ask) := ⟨rfl, rfl, rfl, by decide +kernel, rfl, by decide +kernel, by decide +kernel⟩
theorem sc_law_walked : FnScope ["_law_start", "_law_rows_here", "_law_asked", "_law_state", "_law_answers", "_law_ask"] ["_law_start", "_law_rows_here", "_law_asked"] (defScope s_law_walked) := ⟨rfl, rfl, rfl, by decide +kernel, rfl, by decide +kernel, by decide +kernel⟩
theorem sc_law_runs : FnScope ["_law_machine", "_law_rows_here", "_law_asked", "_law_cut", "_law_wrong", "_law_runner", "_law_answers", "_law_ahead", "_law_whole"] ["_law_machine", "_law_rows_here", "_law_asked", "_law_cut", "_law_wrong"] (defScope s_law_runs) := ⟨rfl, rfl, rfl, by decide +kernel, rfl, by decide +kernel, by decide +kernel⟩
theorem sc_law : FnScope ["_law_script", "_law_states", "_law_asks_here", "_law_rows_here", "_law_start", "_law_first", "_law_spoiled_here", "_law_handed", "_law_machine", "_law_asked", "_law_cut", "_law_wrong", "_law_given"] ["_law_script"] (defScope s_law) := ⟨rfl, rfl, rfl, by decide +kernel, rfl, by decide +kernel, by decide +kernel⟩
theorem sc_Runner___init__ : FnScope ["self", "machine"] ["self", "machine"] (defScope s_Runner___init__) := ⟨rfl, rfl, rfl, by decide +kernel, rfl, by decide +kernel, by decide +kernel⟩
theorem sc_Runner_step : FnScope ["self", "ask", "row"] ["self", "ask"] (defScope s_Runner_step) := ⟨rfl, rfl, rfl, by decide +kernel, rfl, by decide +kernel, by decide +kernel⟩
section
variable {P : Program} {w : World} {K : PySem.W.Frag} {mg : Str → Option Value} {base : Heap}
def spWhole : Sp := fun vs H Q _ => ∃ z : Int, vs = [.int z] ∧ Q (.bl true) H
theorem ok_is_whole (F : DefAt K mg "is_whole" s_is_whole ["value"]) (T : Txt mg) : Dn P w K mg base "is_whole" 1 ["value"] spWhole := by
  have sc := sc_is_whole
  refine F.ok sc (fun vs H Q E h => ?_) (fun f cdv A outer s H vs Q E hr h => ?_)
  · obtain ⟨z, rfl, _⟩ := h; rfl
  obtain ⟨z, rfl, q⟩ := h
  refine ⟨_, (pss_one (ps_ret (pe_and (pe_callB (clIsi (K := K) rfl (T := "int")) rfl T.b_isinstance PyProof.Rows.boot_isinstance (pa_cons (pv 0) (pa_cons (pe_bltn (v := .ty "int") rfl T.b_int PyProof.Rows.boot_int rfl) pa_nil))) (pe_one (pe_not (pe_callB (clIsi (K := K) rfl (T := "bool")) rfl T.b_isinstance PyProof.Rows.boot_isinstance (pa_cons (pv 0) (pa_cons (pe_bltn (v := .ty "bool") rfl T.b_bool PyProof.Rows.boot_bool rfl) pa_nil)))))))), ?_⟩
  refine ⟨_, rfl, _, "int", _, rfl, rfl, isi_same _, true, rfl, ?_⟩
  refine iteT ?_
  exact ⟨_, rfl, _, "int", _, rfl, rfl, isi_int_bool, false, rfl, q⟩
def spPlace : Sp := fun vs H Q _ => ∃ z n : Int, vs = [.int z, .int n] ∧ Q (.bl (decide (0 ≤ z ∧ z < n))) H
theorem ok_is_place (F : DefAt K mg "is_place" s_is_place ["value", "count"]) (T : Txt mg) (D_is_whole : Dn P w K mg base "is_whole" 1 ["value"] spWhole) : Dn P w K mg base "is_place" 2 ["value", "count"] spPlace := by
  have sc := sc_is_place
  refine F.ok sc (fun vs H Q E h => ?_) (fun f cdv A outer s H vs Q E hr h => ?_)
  · obtain ⟨_, _, rfl, _⟩ := h; rfl
  obtain ⟨z, n, rfl, q⟩ := h
  refine ⟨_, (pss_one (ps_ret (pe_and (pe_dn D_is_whole hr (pa_cons (pv 0) pa_nil)) (pe_one (pe_chain op_le op_lt pe_int (pv 0) (pv 1)))))), ?_⟩
  refine ⟨_, rfl, z, rfl, true, rfl, ?_⟩
  refine iteT ?_
  refine ⟨_, rfl, _, _, rfl, rfl, decide (0 ≤ z), rfl, ?_⟩
  refine ite2 (fun c => ?_) (fun c => ?_)
  · have h0 : 0 ≤ z := of_decide_eq_true c
    refine ⟨_, rfl, _, _, rfl, rfl, ?_⟩
    show Q (V.bl (decide (z < n))) H
    have e : decide (z < n) = decide (0 ≤ z ∧ z < n) := by
      by_cases h : z < n
      · rw [decide_eq_true h, decide_eq_true ⟨h0, h⟩]
      · rw [decide_eq_false h, decide_eq_false fun k => h k.2]
    rw [e]; exact q
  · have e : decide (0 ≤ z ∧ z < n) = false := decide_eq_false fun k => c (decide_eq_true k.1)
    rw [e] at q; exact q
abbrev MRow := List (Int × Int)
abbrev rMR : Rel MRow := rLst (rT2 rInt rInt)
abbrev rMs : Rel (List MRow) := rLst (rLst (rT2 rInt rInt))
theorem mono_mr : MonoR rMR := mono_lst (mono_t2 mono_int mono_int)
theorem mono_ms : MonoR rMs := mono_lst mono_mr
theorem pr_len {α β : Type} {F : α → β → Prop} : ∀ {xs : List α} {ys : List β}, Paired F xs ys → xs.length = ys.length
  | _, _, .nil => rfl
  | _, _, .cons _ t => by rw [List.length_cons, List.length_cons, pr_len t]
theorem mr_parts {H : Hp} {r : MRow} {v : V} (h : rMR H r v) : ∃ a us, v = .ref a ∧ H a = some (.lst us) ∧ us.length = r.length ∧ ∀ (i : Nat) (p : Int × Int), r[i]? = some p → ∃ t, us[i]? = some (.ref t) ∧ H t = some (.tup [.int p.1, .int p.2]) := by
  obtain ⟨a, us, rfl, ha, pr⟩ := h
  refine ⟨a, us, rfl, ha, (pr_len pr).symm, fun i p hp => ?_⟩
  obtain ⟨u, hu, t, x, y, rfl, ht, rfl, rfl⟩ := L2.Paired.at pr hp
  exact ⟨t, hu, ht⟩
theorem ms_parts {H : Hp} {R : List MRow} {v : V} (h : rMs H R v) : ∃ a us, v = .ref a ∧ H a = some (.lst us) ∧ us.length = R.length ∧ ∀ (i : Nat) (r : MRow), R[i]? = some r → ∃ u, us[i]? = some u ∧ rMR H r u := by
  obtain ⟨a, us, rfl, ha, pr⟩ := h
  exact ⟨a, us, rfl, ha, (pr_len pr).symm, fun i r hr => L2.Paired.at pr hr⟩
structure RwOk (k n : Int) (r : MRow) : Prop where
  ne : r ≠ []
  len : (r.length : Int) = k
  go : ∀ p ∈ r, 0 ≤ p.2 ∧ p.2 < n
def spRowC (K : PySem.W.Frag) : Sp := fun vs H Q E => ∃ (v : V) (r : MRow) (k n : Int), vs = [v, .int k, .int n] ∧ rMR H r v ∧ (RwOk k n r → ∀ H', Same H H' → Q .non H') ∧ (¬ RwOk k n r → ∀ H', Same H H' → E (.ref (clK K "NoMachine")) none H')
theorem ok_rowC (F : DefAt K mg "check_machine_row" s_check_machine_row ["row", "asks", "states"]) (T : Txt mg) (XC : XT K mg "GarthError" xRs xNs) (D_is_place : Dn P w K mg base "is_place" 2 ["value", "count"] spPlace) : DnX P w K mg base "check_machine_row" 3 ["row", "asks", "states"] (spRowC K) := by
  have sc := sc_check_machine_row
  refine F.okX sc (fun vs H Q E h => ?_) (fun f cdv A outer s H vs Q E hr h => ?_)
  · obtain ⟨_, _, _, _, rfl, _⟩ := h; rfl
  obtain ⟨v, r, k, n, rfl, hv, q1, q2⟩ := h
  obtain ⟨a, us, rfl, ha, ul, hat⟩ := mr_parts hv
  refine ⟨_, (pss_cons (ps_if (PW.pt (pw_or (pt_cmpR op_eq (pe_callB (clLen (K := K) rfl) rfl T.b_len PySem.boot_len (pa_cons (pv 0) pa_nil)) pe_int (nomark _)) (pw_or1 (pt_cmpR op_ne (pe_callB (clLen (K := K) rfl) rfl T.b_len PySem.boot_len (pa_cons (pv 0) pa_nil)) (pv 1) (nomark _)))))
      (pss_one (ps_raise raisesR (XC.m "NoMachine" (by decide)) (XC.exc "NoMachine" (by decide)) (pa_cons pe_str pa_nil)))
      pss_nil)
      (pss_one (ps_for PassesOwn.leaving rfl (pi_list (pv 0)) (pg_name (i := 3) sc.nd rfl (Or.inl rfl))
      (pss_one (ps_if (pt_not (pt_val (pe_dn D_is_place hr (pa_cons (pe_ix (ixT (K := K) rfl) (pv 3) pe_int (fun _ _ => rfl)) (pa_cons (pv 2) pa_nil)))))
      (pss_one (ps_raise raisesR (XC.m "NoMachine" (by decide)) (XC.exc "NoMachine" (by decide)) (pa_cons pe_str pa_nil)))
      pss_nil))))), ?_⟩
  refine ⟨_, rfl, a, _, rfl, .inl (SqL.of ha), rfl, _, rfl, ?_⟩
  refine ite2 (fun c => ?_) (fun c => ?_)
  · refine iteT ?_
    have c' := of_decide_eq_true c
    have c2 : ((us.length : Nat) : Int) = 0 := by injection c'
    exact ⟨(by show 1 ≤ sizeLine; decide), q2 (fun z => z.ne (List.length_eq_zero_iff.mp (by omega))) _ (Same.refl _)⟩
  have hne : r ≠ [] := fun z => c (by subst z; have : us = [] := List.length_eq_zero_iff.mp ul; rw [this]; rfl)
  refine ⟨_, rfl, a, _, rfl, .inl (SqL.of ha), _, rfl, rfl, _, rfl, ?_⟩
  by_cases hk : (r.length : Int) = k
  rotate_left
  · refine ite2 (fun c => ?_) (fun c => ?_)
    · exact ⟨(by show 1 ≤ sizeLine; decide), q2 (fun z => hk z.len) _ (Same.refl _)⟩
    · refine absurd ?_ c
      show (!decide (V.int ((us.length : Nat) : Int) = V.int k)) = true
      rw [decide_eq_false (fun z => hk (by injection z with z; omega))]; rfl
  refine ite2 (fun c => ?_) (fun c => ?_)
  · exfalso
    have c' : (!decide (V.int ((us.length : Nat) : Int) = V.int k)) = true := c
    rw [decide_eq_true (by rw [ul, hk])] at c'
    cases c'
  refine ⟨_, rfl, a, rfl, ⟨_, SqL.of ha⟩, for_list (K := K) (a := a) (xs := us) (fun i σ H2 => H2 = H ∧ (∃ y : Option V, σ = [some (.ref a), some (.int k), some (.int n), y]) ∧ ∀ (j : Nat) (p : Int × Int), j < i → r[j]? = some p → 0 ≤ p.2 ∧ p.2 < n) ⟨rfl, ⟨_, rfl⟩, fun j _ z => absurd z (Nat.not_lt_zero j)⟩ (fun i σ H2 _ h => ?_) (fun i x σ H2 hi h => ?_) (fun σ H2 h => ?_)⟩
  · obtain ⟨rfl, _⟩ := h; exact SqL.of ha
  · obtain ⟨rfl, ⟨y, rfl⟩, hk2⟩ := h
    have il : i < r.length := by rw [← ul]; exact (List.getElem?_eq_some_iff.mp hi).1
    obtain ⟨t, hu, ht⟩ := hat i _ (List.getElem?_eq_getElem il)
    rw [hi] at hu
    injection hu with hu
    subst hu
    refine ⟨_, rfl, t, _, _, _, rfl, rfl, SqT.of ht, atI_nat (j := 1) rfl, _, rfl, r[i].2, n, rfl, _, rfl, ?_⟩
    refine ite2 (fun c => ?_) (fun c => ?_)
    · exact ⟨(by show 1 ≤ sizeLine; decide), q2 (fun z => by have := z.go _ (List.getElem_mem il); simp [this] at c) _ (Same.refl _)⟩
    · refine ⟨rfl, ⟨_, rfl⟩, fun j p hj hp => ?_⟩
      by_cases e : j = i
      · subst e
        rw [List.getElem?_eq_getElem il] at hp
        injection hp with hp
        subst hp
        simpa using c
      · exact hk2 j p (by omega) hp
  · obtain ⟨rfl, _, hk2⟩ := h
    refine q1 ⟨hne, hk, fun p hp => ?_⟩ _ (Same.refl _)
    obtain ⟨j, hj⟩ := List.getElem?_of_mem hp
    exact hk2 j p (by have := (List.getElem?_eq_some_iff.mp hj).1; omega) hj
structure MOk (s : Int) (R : List MRow) : Prop where
  st : 0 ≤ s ∧ s < R.length
  go : ∀ r ∈ R, RwOk ((R.headD []).length : Int) R.length r
def spCM (K : PySem.W.Frag) : Sp := fun vs H Q E => ∃ (z : Int) (v : V) (R : List MRow), vs = [.int z, v] ∧ rMs H R v ∧ (MOk z R → ∀ H', Same H H' → Q .non H') ∧ (¬ MOk z R → ∀ H', Same H H' → E (.ref (clK K "NoMachine")) none H')
theorem ok_cm (F : DefAt K mg "check_machine" s_check_machine ["start", "rows"]) (T : Txt mg) (XC : XT K mg "GarthError" xRs xNs) (D_is_place : Dn P w K mg base "is_place" 2 ["value", "count"] spPlace) (D_check_machine_row : DnX P w K mg base "check_machine_row" 3 ["row", "asks", "states"] (spRowC K)) : DnX P w K mg base "check_machine" 4 ["start", "rows"] (spCM K) := by
  have sc := sc_check_machine
  refine F.okX sc (fun vs H Q E h => ?_) (fun f cdv A outer s H vs Q E hr h => ?_)
  · obtain ⟨_, _, _, rfl, _⟩ := h; rfl
  obtain ⟨z, v, R, rfl, hv, q1, q2⟩ := h
  obtain ⟨a, us, rfl, ha, ul, hat⟩ := ms_parts hv
  refine ⟨_, (pss_cons (ps_if (pt_not (pt_val (pe_dn D_is_place hr (pa_cons (pv 0) (pa_cons (pe_callB (clLen (K := K) rfl) rfl T.b_len PySem.boot_len (pa_cons (pv 1) pa_nil)) pa_nil)))))
      (pss_one (ps_raise raisesR (XC.m "NoMachine" (by decide)) (XC.exc "NoMachine" (by decide)) (pa_cons pe_str pa_nil)))
      pss_nil)
      (pss_one (ps_for PassesOwn.leaving rfl (pi_list (pv 1)) (pg_name (i := 2) sc.nd rfl (Or.inl rfl))
      (pss_one (ps_expr (pe_dnX passR D_check_machine_row hr (pa_cons (pv 2) (pa_cons (pe_callB (clLen (K := K) rfl) rfl T.b_len PySem.boot_len (pa_cons (pe_ix (ixL (K := K) rfl) (pv 1) pe_int (fun _ _ => rfl)) pa_nil)) (pa_cons (pe_callB (clLen (K := K) rfl) rfl T.b_len PySem.boot_len (pa_cons (pv 1) pa_nil)) pa_nil))))))))), ?_⟩
  refine ⟨_, rfl, _, rfl, a, _, rfl, .inl (SqL.of ha), z, _, rfl, _, rfl, ?_⟩
  by_cases hz : 0 ≤ z ∧ z < ((us.length : Nat) : Int)
  rotate_left
  · rw [decide_eq_false hz]
    exact iteT ⟨(by show 1 ≤ sizeLine; decide), q2 (fun y => hz (by rw [ul]; exact y.st)) _ (Same.refl _)⟩
  rw [decide_eq_true hz]
  refine iteF ?_
  have h0 : 0 < R.length := by omega
  obtain ⟨u0, hu0, r0⟩ := hat 0 _ (List.getElem?_eq_getElem h0)
  obtain ⟨a0, us0, rfl, ha0, ul0, _⟩ := mr_parts r0
  have hd : R.headD [] = R[0] := by cases R with | nil => exact absurd h0 (Nat.lt_irrefl 0) | cons x y => rfl
  refine ⟨_, rfl, a, rfl, ⟨_, SqL.of ha⟩, for_list (K := K) (a := a) (xs := us) (fun i σ H2 => Same H H2 ∧ (∃ y : Option V, σ = [some (.int z), some (.ref a), y]) ∧ ∀ (j : Nat) (r : MRow), j < i → R[j]? = some r → RwOk (R[0].length : Int) R.length r) ⟨Same.refl _, ⟨_, rfl⟩, fun j _ z => absurd z (Nat.not_lt_zero j)⟩ (fun i σ H2 _ h => SqL.of (h.1 _ _ ha)) (fun i x σ H2 hi h => ?_) (fun σ H2 h => ?_)⟩
  · obtain ⟨s2, ⟨y, rfl⟩, hk2⟩ := h
    have il : i < R.length := by rw [← ul]; exact (List.getElem?_eq_some_iff.mp hi).1
    obtain ⟨u, hu, hr'⟩ := hat i _ (List.getElem?_eq_getElem il)
    rw [hi] at hu
    injection hu with hu
    subst hu
    refine ⟨_, rfl, _, rfl, a, _, _, _, rfl, rfl, SqL.of (s2 _ _ ha), atI_nat (j := 0) hu0, a0, _, rfl, .inl (SqL.of (s2 _ _ ha0)), _, rfl, a, _, rfl, .inl (SqL.of (s2 _ _ ha)), _, R[i], _, _, rfl, mono_mr.up s2 hr', fun ok H3 s3 => ?_, fun no H3 s3 => ?_⟩
    · refine ⟨s2.trans s3, ⟨_, rfl⟩, fun j r hj hr => ?_⟩
      by_cases e : j = i
      · subst e
        rw [List.getElem?_eq_getElem il] at hr
        injection hr with hr
        subst hr
        rw [ul0, ul] at ok
        exact ok
      · exact hk2 j r (by omega) hr
    · refine q2 (fun z => no ?_) _ (s2.trans s3)
      have := z.go _ (List.getElem_mem il)
      rw [hd] at this
      rw [ul0, ul]; exact this
  · obtain ⟨s2, _, hk2⟩ := h
    refine q1 ⟨by omega, fun r hr => ?_⟩ _ s2
    obtain ⟨j, hj⟩ := List.getElem?_of_mem hr
    rw [hd]
    exact hk2 j r (by have := (List.getElem?_eq_some_iff.mp hj).1; omega) hj
def spMO (K : PySem.W.Frag) : Sp := fun vs H Q E => ∃ (z : Int) (v : V) (R : List MRow), vs = [.int z, v] ∧ rMs H R v ∧ R.length ≤ 60 ∧ (∀ r ∈ R, r.length ≤ 60) ∧ (MOk z R → ∀ u H', Same H H' → rT2 rInt rMs H' (z, R) u → Q u H') ∧ (¬ MOk z R → ∀ H', Same H H' → E (.ref (clK K "NoMachine")) none H')
theorem ok_mo (F : DefAt K mg "machine_of" s_machine_of ["start", "rows"]) (T : Txt mg) (XC : XT K mg "GarthError" xRs xNs) (D_check_machine : DnX P w K mg base "check_machine" 4 ["start", "rows"] (spCM K)) : DnX P w K mg base "machine_of" 5 ["start", "rows"] (spMO K) := by
  have sc := sc_machine_of
  refine F.okX sc (fun vs H Q E h => ?_) (fun f cdv A outer s H vs Q E hr h => ?_)
  · obtain ⟨_, _, _, rfl, _⟩ := h; rfl
  obtain ⟨z, v, R, rfl, hv, few, few2, q1, q2⟩ := h
  obtain ⟨a, us, rfl, ha, ul, hat⟩ := ms_parts hv
  refine ⟨_, (pss_cons (ps_expr (pe_dnX passR D_check_machine hr (pa_cons (pv 0) (pa_cons (pv 1) pa_nil))))
      (pss_one (ps_ret (pe_tup (pa_cons (pv 0) (pa_cons (pe_lc (defScope s_machine_of) ["start", "rows"] ["row"] 1 [] (pi_list (pv 1)) (fun _ _ _ _ _ _ => (ptg_name (show List.Nodup (["row"] : List Str) by decide +kernel) rfl rfl)) (fun _ _ _ _ _ _ => pts_nil) (fun _ _ _ _ _ _ => (by exact (pe_lcN2  ["row"] ["step"] 1 [] (pi_list0 (pv 0)) (fun _ _ _ _ _ _ => (ptg_name (show List.Nodup (["step"] : List Str) by decide +kernel) rfl rfl)) (fun _ _ _ _ _ _ => pts_nil) (fun _ _ _ _ _ _ => (pe_tup (pa_cons (pe_ix (ixT (K := K) rfl) (pv 0) pe_int (fun _ _ => rfl)) (pa_cons (pe_ix (ixT (K := K) rfl) (pv 0) pe_int (fun _ _ => rfl)) pa_nil)))))))) pa_nil)))))), ?_⟩
  refine ⟨_, rfl, _, rfl, z, _, R, rfl, hv, fun ok H1 s1 => ?_, q2⟩
  refine ⟨_, rfl, _, rfl, a, rfl, ⟨_, SqL.of (s1 _ _ ha)⟩, comp_listD (K := K) (a := a) (xs := us) (fun i ys H3 => Same H1 H3 ∧ Paired (rMR H3) (R.take i) ys) ⟨Same.refl _, .nil⟩ (small (m := 1000) (by omega)) (fun i ys H3 hi h => ?_) (fun i v ys H3 hi h => ?_) (fun ys H3 h lb hlb => ?_)⟩
  · obtain ⟨s3, p3⟩ := h
    refine ⟨SqL.of (s3 _ _ (s1 _ _ ha)), ?_⟩
    rw [← pr_len p3]; exact List.length_take_le _ _
  · obtain ⟨s3, p3⟩ := h
    have il : i < R.length := by rw [← ul]; exact (List.getElem?_eq_some_iff.mp hi).1
    obtain ⟨u, hu, hr'⟩ := hat i _ (List.getElem?_eq_getElem il)
    rw [hi] at hu
    injection hu with hu
    subst hu
    obtain ⟨ai, ui, rfl, hai, uli, hati⟩ := mr_parts (mono_mr.up (s1.trans s3) hr')
    have fi := few2 _ (List.getElem_mem il)
    refine comp_yes ?_
    refine ⟨_, rfl, ai, rfl, ⟨_, SqL.of hai⟩, comp_listD (K := K0) (a := ai) (xs := ui) (fun j zs H4 => Same H3 H4 ∧ Paired (rT2 rInt rInt H4) (R[i].take j) zs) ⟨Same.refl _, .nil⟩ (small (m := 1000) (by omega)) (fun j zs H4 hj h => ?_) (fun j v zs H4 hj h => ?_) (fun zs H4 h lc hlc => ?_)⟩
    · obtain ⟨s4, p4⟩ := h
      refine ⟨SqL.of (s4 _ _ hai), ?_⟩
      rw [← pr_len p4]; exact List.length_take_le _ _
    · obtain ⟨s4, p4⟩ := h
      have jl : j < R[i].length := by rw [← uli]; exact (List.getElem?_eq_some_iff.mp hj).1
      obtain ⟨t, ht', ht⟩ := hati j _ (List.getElem?_eq_getElem jl)
      rw [hj] at ht'
      injection ht' with ht'
      subst ht'
      refine comp_yes ?_
      refine ⟨_, rfl, t, _, _, _, rfl, rfl, SqT.of (s4 _ _ ht), atI_nat (j := 0) rfl, _, rfl, t, _, _, _, rfl, rfl, SqT.of (s4 _ _ ht), atI_nat (j := 1) rfl, (by show 2 ≤ sizeLine; decide), fun tn htn => ?_⟩
      refine ⟨s4.trans (same_upd htn _), ?_⟩
      rw [List.take_succ, List.getElem?_eq_getElem jl]
      exact L2.Paired.app (paired_mono (mono_t2 mono_int mono_int) (same_upd htn _) p4) (.cons ⟨tn, _, _, rfl, upd_same, rfl, rfl⟩ .nil)
    · obtain ⟨s4, p4⟩ := h
      rw [uli, List.take_length] at p4
      have s5 := s4.trans (same_upd hlc (.lst zs))
      refine ⟨s3.trans s5, ?_⟩
      rw [List.take_succ, List.getElem?_eq_getElem il]
      exact L2.Paired.app (paired_mono mono_mr s5 p3) (.cons ⟨lc, zs, rfl, upd_same, paired_mono (mono_t2 mono_int mono_int) (same_upd hlc _) p4⟩ .nil)
  · obtain ⟨s3, p3⟩ := h
    rw [ul, List.take_length] at p3
    refine ⟨(by show 2 ≤ sizeLine; decide), fun tp htp => ?_⟩
    have s4 := same_upd hlb (.lst ys)
    have s5 := same_upd htp (.tup [.int z, .ref lb])
    exact q1 ok _ _ (s1.trans (s3.trans (s4.trans s5))) ⟨tp, _, _, rfl, upd_same, rfl, lb, ys, rfl, s5 _ _ upd_same, paired_mono mono_mr (s4.trans s5) p3⟩
abbrev RunFs : List Str := ["state", "rows"]
def flR (z : Int) (l : Addr) : List (Str × V) := [("state", .int z), ("rows", .ref l)]
section
variable {z z' : Int} {l : Addr}
theorem flR_s : (flR z l).lookup ("state" : Str) = some (.int z) := lk_eq
theorem flR_r : (flR z l).lookup ("rows" : Str) = some (.ref l) := by
  unfold flR; rw [lk_ne (by decide +kernel)]; exact lk_eq
theorem flR_no {m : Str} (h : m ∉ RunFs) : (flR z l).lookup m = none := by
  simp only [List.mem_cons, List.not_mem_nil, or_false, not_or] at h
  unfold flR; rw [lk_ne h.1, lk_ne h.2]; rfl
theorem flR_put : putF "state" (.int z') (flR z l) = flR z' l := by
  unfold flR; rw [pf_eq]
theorem flR_new : putF "rows" (.ref l) (putF "state" (.int z) []) = flR z l := by
  show putF "rows" (.ref l) [("state", .int z)] = _
  unfold flR; rw [pf_ne (by decide +kernel)]; rfl
end
def LT (H H' : Hp) : Prop := ∀ b us, (H b = some (.lst us) → H' b = some (.lst us)) ∧ (H b = some (.tup us) → H' b = some (.tup us))
theorem mr_lt {H H' : Hp} (h : LT H H') {r : MRow} {v : V} (z : rMR H r v) : rMR H' r v := by
  obtain ⟨a, us, rfl, ha, p⟩ := z
  refine ⟨a, us, rfl, (h _ _).1 ha, L2.Paired.imp' (fun x u z => ?_) p⟩
  obtain ⟨t, x, y, rfl, ht, e1, e2⟩ := z
  exact ⟨t, x, y, rfl, (h _ _).2 ht, e1, e2⟩
theorem ms_lt {H H' : Hp} (h : LT H H') {R : List MRow} {v : V} (z : rMs H R v) : rMs H' R v := by
  obtain ⟨a, us, rfl, ha, p⟩ := z
  exact ⟨a, us, rfl, (h _ _).1 ha, L2.Paired.imp' (fun x u z => mr_lt h z) p⟩
theorem LT.ins {H : Hp} {x C dx : Addr} {fs : List (Str × V)} {o : HO} (h : H x = some (.ins C dx fs)) : LT H (upd H x o) := fun b us => by
  by_cases e : b = x
  · subst e; rw [h]; exact ⟨(fun z => by cases z), (fun z => by cases z)⟩
  · rw [upd_ne e]; exact ⟨id, id⟩
def spInitR (C : Addr) : Sp := fun vs H Q _ => ∃ (x dx : Addr) (v : V) (z : Int) (R : List MRow), vs = [.ref x, v] ∧ H x = some (.ins C dx []) ∧ rT2 rInt rMs H (z, R) v ∧ R.length ≤ 60 ∧ (∀ r ∈ R, r.length ≤ 60) ∧
  ∀ (l : Addr) (H' : Hp), (∀ b o, b ≠ x → H b = some o → H' b = some o) → rMs H' R (.ref l) → H' x = some (.ins C dx (flR z l)) → Q .non H'
theorem ok_initR {C : Addr} (F : MkAt K C "Runner.__init__" s_Runner___init__ ["self", "machine"]) (T : Txt mg) (CL_Runner : ClsAt K mg "Runner" C RunFs) : DnK P w K mg base C 1 ["self", "machine"] (spInitR C) := by
  have sc := sc_Runner___init__
  refine F.ok sc (fun vs H Q E h => ?_) (fun f cdv A outer s H vs Q E hr h => ?_)
  · obtain ⟨_, _, _, _, _, rfl, _⟩ := h; rfl
  obtain ⟨x, dx, v, z, R, rfl, hx, hm, few, few2, q⟩ := h
  obtain ⟨tm, _, vr, rfl, htm, rfl, hv⟩ := hm
  have ntm : tm ≠ x := fun e => by rw [e, hx] at htm; cases htm
  refine ⟨_, (pss_cons (ps_fldK (K := K) rfl (pv 0) (pe_ix (ixT (K := K) rfl) (pv 1) pe_int (fun _ _ => rfl)) rfl)
      (pss_one (ps_fldK (K := K) rfl (pv 0) (pe_lc (defScope s_Runner___init__) ["self", "machine"] ["row"] 1 [] (pi_list (pe_ix (ixT (K := K) rfl) (pv 1) pe_int (fun _ _ => rfl))) (fun _ _ _ _ _ _ => (ptg_name (show List.Nodup (["row"] : List Str) by decide +kernel) rfl rfl)) (fun _ _ _ _ _ _ => pts_nil) (fun _ _ _ _ _ _ => (pe_callTy (clList (K := K) rfl) rfl T.b_list PyProof.Rows.boot_list (pa_cons (pv 0) pa_nil)))) rfl))), ?_⟩
  refine ⟨_, rfl, tm, _, _, _, rfl, rfl, SqT.of htm, atI_nat (j := 0) rfl, _, rfl, x, C, dx, _, rfl, hx, CL_Runner.cl, CL_Runner.na _ (by decide +kernel), (by show 0 < 1000; decide), ?_⟩
  have hv1 : rMs (upd H x (.ins C dx (putF "state" (.int z) []))) R vr := ms_lt (LT.ins hx) hv
  have st1 : ∀ b o, b ≠ x → H b = some o → upd H x (.ins C dx (putF "state" (.int z) [])) b = some o := fun b o n e => by rw [upd_ne n]; exact e
  have hx1 : upd H x (.ins C dx (putF "state" (.int z) [])) x = some (.ins C dx (putF "state" (.int z) [])) := upd_same
  generalize upd H x (.ins C dx (putF "state" (.int z) [])) = H1 at hv1 st1 hx1 ⊢
  obtain ⟨a, us, rfl, ha, ul, hat⟩ := ms_parts hv1
  refine ⟨_, rfl, tm, _, _, _, rfl, rfl, SqT.of (st1 _ _ ntm htm), atI_nat (j := 1) rfl, a, rfl, ⟨_, SqL.of ha⟩, comp_listD (K := K) (a := a) (xs := us) (fun i ys H3 => Same H1 H3 ∧ Paired (rMR H3) (R.take i) ys) ⟨Same.refl _, .nil⟩ (small (m := 1000) (by omega)) (fun i ys H3 hi h => ?_) (fun i v ys H3 hi h => ?_) (fun ys H3 h lb hlb => ?_)⟩
  · obtain ⟨s3, p3⟩ := h
    refine ⟨SqL.of (s3 _ _ ha), ?_⟩
    rw [← pr_len p3]; exact List.length_take_le _ _
  · obtain ⟨s3, p3⟩ := h
    have il : i < R.length := by rw [← ul]; exact (List.getElem?_eq_some_iff.mp hi).1
    obtain ⟨u, hu, hr'⟩ := hat i _ (List.getElem?_eq_getElem il)
    rw [hi] at hu
    injection hu with hu
    subst hu
    obtain ⟨ai, ui, rfl, hai, pi⟩ := mono_mr.up s3 hr'
    refine comp_yes ?_
    refine ⟨_, rfl, ai, _, rfl, .inl (SqL.of hai), fun lc hlc => ?_⟩
    refine ⟨s3.trans (same_upd hlc _), ?_⟩
    rw [List.take_succ, List.getElem?_eq_getElem il]
    exact L2.Paired.app (paired_mono mono_mr (same_upd hlc _) p3) (.cons ⟨lc, ui, rfl, upd_same, paired_mono (mono_t2 mono_int mono_int) (same_upd hlc _) pi⟩ .nil)
  · obtain ⟨s3, p3⟩ := h
    rw [ul, List.take_length] at p3
    have s4 := s3.trans (same_upd hlb (.lst ys))
    have hl4 : rMs (upd H3 lb (.lst ys)) R (.ref lb) := ⟨lb, ys, rfl, upd_same, paired_mono mono_mr (same_upd hlb _) p3⟩
    generalize upd H3 lb (.lst ys) = H4 at s4 hl4 ⊢
    refine ⟨_, rfl, x, C, dx, _, rfl, s4 _ _ hx1, CL_Runner.cl, CL_Runner.na _ (by decide +kernel), (by show 1 < 1000; decide), ?_⟩
    rw [flR_new]
    exact q lb _ (fun b o n e => by rw [upd_ne n]; exact s4 _ _ (st1 _ _ n e)) (ms_lt (LT.ins (s4 _ _ hx1)) hl4) upd_same
def stp (R : List MRow) (z k : Int) : Int × Int := (R.getD z.toNat []).getD k.toNat (0, 0)
def wst (R : List MRow) (a : List Int × Int) (k : Int) : List Int × Int := (a.1 ++ [(stp R a.2 k).1], (stp R a.2 k).2)
def wlk (R : List MRow) (z : Int) (ks : List Int) : List Int × Int := ks.foldl (wst R) ([], z)
theorem wlk_snoc {R : List MRow} {z k : Int} {ks : List Int} : wlk R z (ks ++ [k]) = wst R (wlk R z ks) k := by unfold wlk; rw [List.foldl_append]; rfl
def wid (R : List MRow) : Int := ((R.headD []).length : Int)
def AskOk (R : List MRow) (k : Int) : Prop := 0 ≤ k ∧ k < wid R
theorem stp_ok {R : List MRow} {z0 z k : Int} (M : MOk z0 R) (hz : 0 ≤ z ∧ z < R.length) (hk : AskOk R k) : ∃ r p, R[z.toNat]? = some r ∧ r[k.toNat]? = some p ∧ stp R z k = p ∧ 0 ≤ p.2 ∧ p.2 < R.length := by
  have hl : z.toNat < R.length := by omega
  have ok := M.go _ (List.getElem_mem hl)
  have e := ok.len
  have hk' := hk.2
  unfold wid at hk'
  have kl : k.toNat < R[z.toNat].length := by have := hk.1; omega
  refine ⟨R[z.toNat], R[z.toNat][k.toNat], List.getElem?_eq_getElem hl, List.getElem?_eq_getElem kl, ?_, ok.go _ (List.getElem_mem kl)⟩
  unfold stp
  rw [List.getD_eq_getElem?_getD, List.getD_eq_getElem?_getD, List.getElem?_eq_getElem hl, Option.getD_some, List.getElem?_eq_getElem kl, Option.getD_some]
theorem fold_ok {R : List MRow} {z0 : Int} (M : MOk z0 R) : ∀ (ks : List Int) (a : List Int × Int), (0 ≤ a.2 ∧ a.2 < R.length) → (∀ k ∈ ks, AskOk R k) → 0 ≤ (ks.foldl (wst R) a).2 ∧ (ks.foldl (wst R) a).2 < R.length
  | [], _, h, _ => h
  | k :: ks, a, h, g => by
    obtain ⟨r, p, _, _, e, h1, h2⟩ := stp_ok M h (g k List.mem_cons_self)
    refine fold_ok M ks _ ?_ fun k' h' => g k' (List.mem_cons_of_mem _ h')
    show 0 ≤ (stp R a.2 k).2 ∧ (stp R a.2 k).2 < R.length
    rw [e]; exact ⟨h1, h2⟩
theorem wlk_ok {R : List MRow} {z : Int} (M : MOk z R) {ks : List Int} (g : ∀ k ∈ ks, AskOk R k) : 0 ≤ (wlk R z ks).2 ∧ (wlk R z ks).2 < R.length := fold_ok M ks _ M.st g
theorem fold_acc {R : List MRow} : ∀ (ks acc : List Int) (z : Int), ks.foldl (wst R) (acc, z) = (acc ++ (wlk R z ks).1, (wlk R z ks).2)
  | [], acc, z => by show (acc, z) = (acc ++ [], z); rw [List.append_nil]
  | k :: ks, acc, z => by
    show ks.foldl (wst R) (acc ++ [(stp R z k).1], (stp R z k).2) = (acc ++ (ks.foldl (wst R) ([] ++ [(stp R z k).1], (stp R z k).2)).1, (ks.foldl (wst R) ([] ++ [(stp R z k).1], (stp R z k).2)).2)
    rw [fold_acc ks (acc ++ _), fold_acc ks ([] ++ _)]
    simp
theorem wlk_app {R : List MRow} {z : Int} {xs ys : List Int} : wlk R z (xs ++ ys) = ((wlk R z xs).1 ++ (wlk R (wlk R z xs).2 ys).1, (wlk R (wlk R z xs).2 ys).2) := by
  have : wlk R z (xs ++ ys) = ys.foldl (wst R) ((wlk R z xs).1, (wlk R z xs).2) := by unfold wlk; rw [List.foldl_append]
  rw [this, fold_acc]
theorem upd_id {H : Hp} {x : Addr} {o : HO} (h : H x = some o) : upd H x o = H := by
  funext b
  by_cases e : b = x
  · subst e; rw [upd_same, h]
  · rw [upd_ne e]
theorem upd_two {H : Hp} {x : Addr} {o o' : HO} : upd (upd H x o) x o' = upd H x o' := by
  funext b
  by_cases e : b = x
  · subst e; rw [upd_same, upd_same]
  · rw [upd_ne e, upd_ne e, upd_ne e]
theorem at_int {us : List V} {z : Int} {u : V} (h0 : 0 ≤ z) (h : us[z.toNat]? = some u) : atI us z = some u := by
  obtain ⟨n, rfl⟩ := Int.eq_ofNat_of_zero_le h0
  exact atI_nat (j := n) h
def spStep (C : Addr) (K : PySem.W.Frag) : Sp := fun vs H Q E => ∃ (x dx l : Addr) (z k : Int) (R : List MRow) (r : MRow), vs = [.ref x, .int k] ∧ H x = some (.ins C dx (flR z l)) ∧ rMs H R (.ref l) ∧ 0 ≤ z ∧ R[z.toNat]? = some r ∧
  (∀ p, 0 ≤ k → r[k.toNat]? = some p → Q (.int p.1) (upd H x (.ins C dx (flR p.2 l)))) ∧ (¬ (0 ≤ k ∧ k < r.length) → ∀ H', Same H H' → E (.ref (clK K "NoAsk")) none H')
theorem ok_step {C : Addr} (F : MeAt K C "step" "Runner.step" s_Runner_step ["self", "ask"]) (T : Txt mg) (XC : XT K mg "GarthError" xRs xNs) (CL_Runner : ClsAt K mg "Runner" C RunFs) (D_is_place : Dn P w K mg base "is_place" 2 ["value", "count"] spPlace) : DnMX P w K mg base C "step" 3 ["self", "ask"] (spStep C K) := by
  have sc := sc_Runner_step
  refine F.okX sc (fun vs H Q E h => ?_) (fun f cdv A outer s H vs Q E hr h => ?_)
  · obtain ⟨_, _, _, _, _, _, _, rfl, _⟩ := h; rfl
  obtain ⟨x, dx, l, z, k, R, r, rfl, hx, hR, z0, hr', q1, q2⟩ := h
  obtain ⟨_, us, e, hl, ul, hat⟩ := ms_parts hR
  cases e
  obtain ⟨u, hu, hru⟩ := hat _ _ hr'
  obtain ⟨a, ws, rfl, ha, wl, hatr⟩ := mr_parts hru
  have nax : a ≠ x := fun e => by rw [e, hx] at ha; cases ha
  refine ⟨_, (pss_cons (ps_set (i := 2) sc.nd rfl (Or.inl rfl) (pe_ix (ixL (K := K) rfl) (pe_fldK (K := K) rfl (pv 0) rfl) (pe_fldK (K := K) rfl (pv 0) rfl) (fun _ _ => rfl)))
      (pss_cons (ps_if (pt_not (pt_val (pe_dn D_is_place hr (pa_cons (pv 1) (pa_cons (pe_callB (clLen (K := K) rfl) rfl T.b_len PySem.boot_len (pa_cons (pv 2) pa_nil)) pa_nil)))))
      (pss_one (ps_raise raisesR (XC.m "NoAsk" (by decide)) (XC.exc "NoAsk" (by decide)) (pa_cons pe_str pa_nil)))
      pss_nil)
      (pss_cons (ps_fldK (K := K) rfl (pv 0) (pe_ix (ixT (K := K) rfl) (pe_ix (ixL (K := K) rfl) (pv 2) (pv 1) (fun _ _ => rfl)) pe_int (fun _ _ => rfl)) rfl)
      (pss_one (ps_ret (pe_ix (ixT (K := K) rfl) (pe_ix (ixL (K := K) rfl) (pv 2) (pv 1) (fun _ _ => rfl)) pe_int (fun _ _ => rfl))))))), ?_⟩
  refine ⟨_, rfl, x, C, dx, _, _, rfl, hx, CL_Runner.cl, CL_Runner.na _ (by decide +kernel), flR_r, _, rfl, x, C, dx, _, _, rfl, hx, CL_Runner.cl, CL_Runner.na _ (by decide +kernel), flR_s, l, us, z, .ref a, rfl, rfl, SqL.of hl, at_int z0 hu, ?_⟩
  refine ⟨_, rfl, _, rfl, a, _, rfl, .inl (SqL.of ha), k, _, rfl, _, rfl, ?_⟩
  by_cases hk : 0 ≤ k ∧ k < ((ws.length : Nat) : Int)
  rotate_left
  · rw [decide_eq_false hk]
    exact iteT ⟨(by show 1 ≤ sizeLine; decide), q2 (fun y => hk (by rw [wl]; exact y)) _ (Same.refl _)⟩
  rw [decide_eq_true hk]
  refine iteF ?_
  have kl : k.toNat < r.length := by omega
  obtain ⟨t, ht', ht⟩ := hatr _ _ (List.getElem?_eq_getElem kl)
  have ntx : t ≠ x := fun e => by rw [e, hx] at ht; cases ht
  refine ⟨_, rfl, _, rfl, a, ws, k, .ref t, rfl, rfl, SqL.of ha, at_int hk.1 ht', t, _, _, _, rfl, rfl, SqT.of ht, atI_nat (j := 1) rfl, _, rfl, x, C, dx, _, rfl, hx, CL_Runner.cl, CL_Runner.na _ (by decide +kernel), (by show 2 < 1000; decide), ?_⟩
  rw [flR_put]
  exact ⟨_, rfl, _, rfl, a, ws, k, .ref t, rfl, rfl, SqL.of (by rw [upd_ne nax]; exact ha), at_int hk.1 ht', t, _, _, _, rfl, rfl, SqT.of (by rw [upd_ne ntx]; exact ht), atI_nat (j := 0) rfl, q1 _ hk.1 (List.getElem?_eq_getElem kl)⟩
theorem hm_up {H H' : Hp} {z : Int} {R : List MRow} {v : V} (s : Same H H') (h : rT2 rInt rMs H (z, R) v) : rT2 rInt rMs H' (z, R) v := (mono_t2 mono_int mono_ms).up s h
theorem made {C : Addr} {H : Hp} {v : V} {z : Int} {R : List MRow} {x dx : Addr} {Q : Hp → Prop} {E : XK} (hx : H x = none) (hdx : H dx = none) (hm : rT2 rInt rMs H (z, R) v) (few : R.length ≤ 60) (few2 : ∀ r ∈ R, r.length ≤ 60)
    (q : ∀ (l : Addr) (H' : Hp), Same H H' → rMs H' R (.ref l) → H' x = some (.ins C dx (flR z l)) → Q H') :
    spInitR C [.ref x, v] (upd (upd H dx (.own x)) x (.ins C dx [])) (fun v H2 => v = .non ∧ Q H2) E := by
  have s5 : Same H (upd (upd H dx (.own x)) x (.ins C dx [])) := fun b o e => by
    rw [upd_ne (fun z => (by rw [z, hx] at e; cases e)), upd_ne (fun z => (by rw [z, hdx] at e; cases e))]; exact e
  refine ⟨x, dx, v, z, R, rfl, upd_same, hm_up s5 hm, few, few2, fun l H' st hl hx' => ⟨rfl, q l H' (fun b o e => st b o (fun z => by rw [z, hx] at e; cases e) (s5 _ _ e)) hl hx'⟩⟩
def spTold (K : PySem.W.Frag) : Sp := fun vs H Q E => ∃ (v : V) (z : Int) (R : List MRow) (la : Addr) (ks : List Int), vs = [v, .ref la] ∧ rT2 rInt rMs H (z, R) v ∧ H la = some (.lst (ks.map V.int)) ∧ R.length ≤ 60 ∧ (∀ r ∈ R, r.length ≤ 60) ∧ ks.length ≤ 60 ∧ MOk z R ∧
  ((∀ k ∈ ks, AskOk R k) → ∀ (p : Addr) (H' : Hp), Same H H' → H' p = some (.lst ((wlk R z ks).1.map V.int)) → Q (.ref p) H') ∧ ((∃ k ∈ ks, ¬ AskOk R k) → ∀ H', Same H H' → E (.ref (clK K "NoAsk")) none H')
theorem ok_told {C : Addr} (F : DefAt K mg "told" s_told ["machine", "asks"]) (T : Txt mg) (XC : XT K mg "GarthError" xRs xNs) (CL_Runner : ClsAt K mg "Runner" C RunFs) (D_Runner___init__ : DnK P w K mg base C 1 ["self", "machine"] (spInitR C)) (D_Runner_step : DnMX P w K mg base C "step" 3 ["self", "ask"] (spStep C K)) : DnX P w K mg base "told" 4 ["machine", "asks"] (spTold K) := by
  have sc := sc_told
  refine F.okX sc (fun vs H Q E h => ?_) (fun f cdv A outer s H vs Q E hr h => ?_)
  · obtain ⟨_, _, _, _, _, rfl, _⟩ := h; rfl
  obtain ⟨v, z, R, la, ks, rfl, hm, hla, few, few2, kl, M, q1, q2⟩ := h
  refine ⟨_, (pss_cons (ps_set (i := 2) sc.nd rfl (Or.inr rfl) (pe_dnK CL_Runner D_Runner___init__ hr (pa_cons (pv 0) pa_nil)))
      (pss_one (ps_ret (pe_lcX (defScope s_told) ["machine", "asks", "runner"] ["ask", "runner"] 1 [2] (pi_list (pv 1)) (fun _ _ _ _ _ _ _ => (ptg_name (show List.Nodup (["ask", "runner"] : List Str) by decide +kernel) rfl rfl)) (fun _ _ _ _ _ _ _ => pts_nil) (fun _ _ _ _ _ _ _ hp => (pe_dnMX hp CL_Runner.cl D_Runner_step hr (pv 1) (pa_cons (pv 0) pa_nil))))))), ?_⟩
  refine ⟨_, rfl, fun x dx hx hdx ne => made hx hdx hm few few2 fun l H1 s1 hl hx1 => ?_⟩
  have nla : la ≠ x := fun e => by rw [e, hx] at hla; cases hla
  refine ⟨_, rfl, la, rfl, ⟨_, SqL.of (s1 _ _ hla)⟩, comp_listD (K := K) (a := la) (xs := ks.map V.int) (fun i ys H3 => H3 = upd H1 x (.ins C dx (flR (wlk R z (ks.take i)).2 l)) ∧ ys = (wlk R z (ks.take i)).1.map V.int ∧ ys.length = i ∧ ∀ k ∈ ks.take i, AskOk R k) ⟨(upd_id hx1).symm, rfl, rfl, fun _ z => by cases z⟩ (small (m := 1000) (by rw [List.length_map]; omega)) (fun i ys H3 hi h => ?_) (fun i v ys H3 hi h => ?_) (fun ys H3 h lb hlb => ?_)⟩
  · obtain ⟨rfl, _, rfl, _⟩ := h
    exact ⟨SqL.of (by rw [upd_ne nla]; exact s1 _ _ hla), Nat.le_refl _⟩
  · obtain ⟨rfl, rfl, yl, g⟩ := h
    obtain ⟨k, hk, rfl⟩ := int_of_at hi
    have zo := wlk_ok M g
    have zl : (wlk R z (ks.take i)).2.toNat < R.length := by omega
    have lt : LT H1 (upd H1 x (.ins C dx (flR (wlk R z (ks.take i)).2 l))) := LT.ins hx1
    have sm : Same H (upd H1 x (.ins C dx (flR (wlk R z (ks.take i)).2 l))) := s1.put hx _
    have rl := (M.go _ (List.getElem_mem zl)).len
    refine comp_yes ?_
    refine ⟨_, rfl, x, dx, _, rfl, upd_same, flR_no (by decide +kernel), _, rfl, x, dx, l, _, k, R, R[(wlk R z (ks.take i)).2.toNat], rfl, upd_same, ms_lt lt hl, zo.1, List.getElem?_eq_getElem zl, fun p k0 hp => ?_, fun no H' s' => ?_⟩
    · rw [upd_two]
      have ok : AskOk R k := ⟨k0, by have := (List.getElem?_eq_some_iff.mp hp).1; unfold wid; omega⟩
      have es : stp R (wlk R z (ks.take i)).2 k = p := by
        obtain ⟨r', p', e1, e2, e3, _⟩ := stp_ok M zo ok
        rw [List.getElem?_eq_getElem zl] at e1
        injection e1 with e1
        subst e1
        rw [hp] at e2
        injection e2 with e2
        rw [e3, ← e2]
      have et : ks.take (i + 1) = ks.take i ++ [k] := by rw [List.take_succ, hk]; rfl
      rw [et, wlk_snoc]
      unfold wst
      rw [es]
      refine ⟨rfl, by rw [List.map_append]; rfl, by rw [List.length_append, yl]; rfl, fun k' h' => ?_⟩
      rcases List.mem_append.mp h' with h' | h'
      · exact g k' h'
      · rw [List.mem_singleton.mp h']; exact ok
    · exact q2 ⟨k, List.mem_of_getElem? hk, fun y => no ⟨y.1, by have := y.2; unfold wid at this; omega⟩⟩ _ (sm.trans s')
  · obtain ⟨rfl, rfl, yl, g⟩ := h
    rw [List.length_map, List.take_length] at g hlb ⊢
    exact q1 g lb _ ((s1.put hx _).trans (same_upd hlb _)) upd_same
def spAt (K : PySem.W.Frag) : Sp := fun vs H Q _ => ∃ (a : Addr) (ns : List Int) (k : Int), vs = [.ref a, .int k] ∧ SqL K H a (ns.map V.int) ∧ ns.length ≤ 63 ∧ 0 ≤ k ∧ k ≤ 1000 ∧ ∀ z : Int, Q (.int z) H
theorem ok_at (F : DefAt K mg "_law_at" s_law_at ["_law_script", "_law_k"]) (T : Txt mg) : Dn P w K mg base "_law_at" 1 ["_law_script", "_law_k"] (spAt K) := by
  have sc := sc_law_at
  refine F.ok sc (fun vs H Q E h => ?_) (fun f cdv A outer s H vs Q E hr h => ?_)
  · obtain ⟨_, _, _, rfl, _⟩ := h; rfl
  obtain ⟨a, ns, k, rfl, hS, h63, h0, h1, q⟩ := h
  have hl : (ns.map V.int).length = ns.length := List.length_map _
  refine ⟨_, (pss_cons (ps_if (pt_cmpR op_lt (pv 1) (pe_callB (clLen (K := K) rfl) rfl T.b_len PySem.boot_len (pa_cons (pv 0) pa_nil)) (nomark _))
      (pss_one (ps_ret (pe_ix (ixL (K := K) rfl) (pv 0) (pv 1) (fun _ _ => rfl))))
      pss_nil)
      (pss_cons (ps_set (i := 2) sc.nd rfl (Or.inl rfl) (pe_op op_add (pe_op op_mul pe_int (pv 1)) pe_int))
      (pss_cut (ps_if (pt_cmpR op_gt (pe_callB (clLen (K := K) rfl) rfl T.b_len PySem.boot_len (pa_cons (pv 0) pa_nil)) pe_int (nomark _))
      (pss_one (ps_set (i := 2) sc.nd rfl (Or.inl rfl) (pe_op op_add (pv 2) (pe_op op_mul (pe_op op_mod (pe_ix (ixL (K := K) rfl) (pv 0) (pe_op op_mod (pv 1) (pe_callB (clLen (K := K) rfl) rfl T.b_len PySem.boot_len (pa_cons (pv 0) pa_nil))) (fun _ _ => rfl)) pe_int) (pe_op op_add (pv 1) pe_int)))))
      pss_nil)
      (pss_one (ps_ret (pe_op op_add (pe_op op_mod (pe_op op_mul (pv 2) (pv 2)) pe_int) (pe_op op_mod (pv 2) pe_int))))))), ?_⟩
  refine ⟨_, rfl, _, rfl, a, _, rfl, .inl hS, _, _, rfl, rfl, _, rfl, ?_⟩
  refine ite2 (fun c => ?_) (fun c => ?_)
  · have c' : k < (((ns.map V.int).length : Nat) : Int) := of_decide_eq_true c
    rw [hl] at c'
    exact ⟨_, rfl, _, rfl, a, _, _, _, rfl, rfl, hS, atI_ints h0 c', q _⟩
  refine ⟨_, rfl, _, _, rfl, rfl, .inl ⟨by decide, by decide⟩, _, _, rfl, rfl, ?_⟩
  refine ⟨fun σ' H1 => H1 = H ∧ ∃ m : Int, -(2 ^ 64) < m ∧ m < 2 ^ 64 ∧ σ' = [some (.ref a), some (.int k), some (.int m)], ?_, ?_⟩
  · refine ⟨_, rfl, a, _, rfl, .inl hS, _, _, rfl, rfl, _, rfl, ?_⟩
    refine ite2 (fun c => ?_) (fun c => ?_)
    · have c' : (0 : Int) < (((ns.map V.int).length : Nat) : Int) := of_decide_eq_true c
      rw [hl] at c'
      have b1 := Int.emod_nonneg k (show (ns.length : Int) ≠ 0 by omega)
      have b2 := Int.emod_lt_of_pos k (show (0 : Int) < ns.length by omega)
      refine ⟨_, rfl, _, rfl, _, rfl, _, rfl, a, _, rfl, .inl hS, _, _, rfl, rfl, (by rw [hl]; omega), a, _, _, _, rfl, rfl, hS, (by rw [hl]; exact atI_ints b1 b2), _, _, rfl, rfl, (show (0 : Int) < 1000003 by decide), ?_⟩
      have e1 := Int.emod_nonneg (ns.getD (k % (ns.length : Int)).toNat 0) (show (1000003 : Int) ≠ 0 by decide)
      have e2 := Int.emod_lt_of_pos (ns.getD (k % (ns.length : Int)).toNat 0) (show (0 : Int) < 1000003 by decide)
      refine ⟨_, rfl, _, _, rfl, rfl, _, _, rfl, rfl, .inr ⟨by omega, by omega⟩, _, _, rfl, rfl, rfl, _, ?_, ?_, rfl⟩
      · have := Int.mul_nonneg e1 (show 0 ≤ k + 1 by omega); omega
      · have : ns.getD (k % (ns.length : Int)).toNat 0 % 1000003 * (k + 1) ≤ 1000003 * 1001 := Int.mul_le_mul (by omega) (by omega) (by omega) (by decide)
        omega
    · exact ⟨rfl, _, by omega, by omega, rfl⟩
  rintro σ' H1 ⟨rfl, m, m1, m2, rfl⟩
  exact ⟨_, rfl, _, rfl, _, _, rfl, rfl, .inl ⟨m1, m2⟩, _, _, rfl, rfl, (show (0 : Int) < 999979 by decide), _, rfl, _, _, rfl, rfl, (show (0 : Int) < 101 by decide), _, _, rfl, rfl, q _⟩
structure MIn (n m : Int) (R : List MRow) : Prop where
  n1 : 1 ≤ n
  n6 : n ≤ 6
  m1 : 1 ≤ m
  m3 : m ≤ 3
  len : (R.length : Int) = n
  row : ∀ r ∈ R, (r.length : Int) = m ∧ ∀ p ∈ r, 0 ≤ p.2 ∧ p.2 < n
theorem MIn.few {n m : Int} {R : List MRow} (h : MIn n m R) : R.length ≤ 60 := by have := h.len; have := h.n6; omega
theorem MIn.few2 {n m : Int} {R : List MRow} (h : MIn n m R) : ∀ r ∈ R, r.length ≤ 60 := fun r hr => by have := (h.row r hr).1; have := h.m3; omega
theorem MIn.wid {n m : Int} {R : List MRow} (h : MIn n m R) : wid R = m := by
  unfold Law.wid
  have l := h.len
  have n1 := h.n1
  cases R with
  | nil => exfalso; simp at l; omega
  | cons r R => exact (h.row r List.mem_cons_self).1
theorem MIn.ok {n m z : Int} {R : List MRow} (h : MIn n m R) (hz : 0 ≤ z ∧ z < n) : MOk z R := by
  have l := h.len
  have m1 := h.m1
  refine ⟨by omega, fun r hr => ⟨fun e => ?_, ?_, fun p hp => ?_⟩⟩
  · have := (h.row r hr).1; rw [e] at this; simp at this; omega
  · have := h.wid; unfold Law.wid at this; rw [this]; exact (h.row r hr).1
  · rw [l]; exact (h.row r hr).2 p hp
def spRowsL (K : PySem.W.Frag) : Sp := fun vs H Q _ => ∃ (a : Addr) (ns : List Int) (n m : Int), vs = [.ref a, .int n, .int m] ∧ SqL K H a (ns.map V.int) ∧ ns.length ≤ 63 ∧ 1 ≤ n ∧ n ≤ 6 ∧ 1 ≤ m ∧ m ≤ 3 ∧ ∀ (v : V) (R : List MRow) (H' : Hp), Same H H' → rMs H' R v → MIn n m R → Q v H'
theorem ok_rowsL (F : DefAt K mg "_law_rows" s_law_rows ["_law_script", "_law_states", "_law_asks_here"]) (T : Txt mg) (D_law_at : Dn P w K mg base "_law_at" 1 ["_law_script", "_law_k"] (spAt K)) : Dn P w K mg base "_law_rows" 2 ["_law_script", "_law_states", "_law_asks_here"] (spRowsL K) := by
  have sc := sc_law_rows
  refine F.ok sc (fun vs H Q E h => ?_) (fun f cdv A outer s H vs Q E hr h => ?_)
  · obtain ⟨_, _, _, _, rfl, _⟩ := h; rfl
  obtain ⟨a, ns, n, m, rfl, hS, h63, n1, n6, m1, m3, q⟩ := h
  refine ⟨_, (pss_cons (ps_set (i := 3) sc.nd rfl (Or.inl rfl) (pe_lst pa_nil))
      (pss_cons (ps_for PassesOwn.never rfl (pi_range1 rfl T.b_range (pa_cons (pv 1) pa_nil)) (pg_name (i := 4) sc.nd rfl (Or.inl rfl))
      (pss_cons (ps_set (i := 5) sc.nd rfl (Or.inl rfl) (pe_lst pa_nil))
      (pss_cons (ps_for PassesOwn.never rfl (pi_range1 rfl T.b_range (pa_cons (pv 2) pa_nil)) (pg_name (i := 6) sc.nd rfl (Or.inl rfl))
      (pss_cons (ps_set (i := 7) sc.nd rfl (Or.inl rfl) (pe_dn D_law_at hr (pa_cons (pv 0) (pa_cons (pe_op op_add (pe_op op_add pe_int (pe_op op_mul (pv 4) (pv 2))) (pv 6)) pa_nil))))
      (pss_one (ps_expr (pe_bm PySem.F.plainAttrs_list PySem.F.slot_list_append PySem.F.type_list_append mt_append (pv 5) (pa_cons (pe_tup (pa_cons (pe_op op_sub (pe_op op_mod (pv 7) pe_int) pe_int) (pa_cons (pe_op op_mod (pe_op op_fdiv (pv 7) pe_int) (pv 1)) pa_nil))) pa_nil))))))
      (pss_one (ps_expr (pe_bm PySem.F.plainAttrs_list PySem.F.slot_list_append PySem.F.type_list_append mt_append (pv 3) (pa_cons (pv 5) pa_nil)))))))
      (pss_one (ps_ret (pv 3))))), ?_⟩
  refine ⟨Nat.zero_le _, fun g hg => ?_⟩
  refine ⟨_, rfl, n, rfl, by omega, by omega, for_range (lo := 0) (n := n.toNat) (fun i σ H2 => ∃ (R : List MRow) (y1 y2 y3 y4 : Option V), σ = [some (.ref a), some (.int n), some (.int m), some (.ref g), y1, y2, y3, y4] ∧ Bld rMR H H2 g R ∧ R.length = i ∧ ∀ r ∈ R, (r.length : Int) = m ∧ ∀ p ∈ r, 0 ≤ p.2 ∧ p.2 < n)
    ⟨[], _, _, _, _, rfl, Bld.start (Same.refl _) hg, rfl, fun _ z => by cases z⟩ (fun i σ H2 hi h => ?_) (fun σ H2 h => ?_)⟩
  · obtain ⟨R, y1, y2, y3, y4, rfl, b, hl, hk⟩ := h
    refine ⟨Nat.zero_le _, fun gr hgr => ?_⟩
    refine ⟨_, rfl, m, rfl, by omega, by omega, for_range (lo := 0) (n := m.toNat) (fun j σ H3 => ∃ (r : MRow) (y3 y4 : Option V), σ = [some (.ref a), some (.int n), some (.int m), some (.ref g), some (.int (0 + (i : Nat))), some (.ref gr), y3, y4] ∧ Bld (rT2 rInt rInt) H2 H3 gr r ∧ r.length = j ∧ ∀ p ∈ r, 0 ≤ p.2 ∧ p.2 < n)
      ⟨[], _, _, rfl, Bld.start (Same.refl _) hgr, rfl, fun _ z => by cases z⟩ (fun j σ H3 hj h => ?_) (fun σ H3 h => ?_)⟩
    · obtain ⟨r, y3, y4, rfl, c, rl, rk⟩ := h
      have sH := b.s.trans c.s
      have ij : 0 ≤ (0 + (i : Int)) * m ∧ (0 + (i : Int)) * m ≤ 6 * 3 := ⟨Int.mul_nonneg (by omega) (by omega), Int.mul_le_mul (by omega) (by omega) (by omega) (by decide)⟩
      refine ⟨_, rfl, _, rfl, _, rfl, _, _, rfl, rfl, .inl ⟨by omega, by omega⟩, _, _, rfl, rfl, _, rfl, _, _, rfl, rfl, a, ns, _, rfl, sH.seq hS, h63, by omega, by omega, fun cell => ?_⟩
      obtain ⟨gvs, hgv, _⟩ := c.sq
      refine ⟨_, rfl, .inl ⟨rfl, _, SqL.of hgv⟩, _, rfl, _, _, rfl, rfl, (show (0 : Int) < 3 by decide), _, _, rfl, rfl, _, rfl, _, _, rfl, rfl, ⟨by decide, by decide⟩, _, rfl, _, _, rfl, rfl, (show (0 : Int) < n by omega), (by show 2 ≤ sizeLine; decide), fun t ht => ?_⟩
      obtain ⟨vs4, k1, k2, c4⟩ := c.push (mono_t2 mono_int mono_int) (same_upd ht _) (x := (cell % 3 - 1, cell / 3 % n)) (v := .ref t) ⟨t, _, _, rfl, (by rw [newp_at ht]; exact upd_same), rfl, rfl⟩
      refine ⟨gr, vs4, _, rfl, rfl, k1, smlt (m := 1000) (by omega), ?_⟩
      refine ⟨_, _, _, rfl, c4, by simp [rl], fun p hp => ?_⟩
      rcases List.mem_append.mp hp with h | h
      · exact rk p h
      · rw [List.mem_singleton.mp h]
        exact ⟨Int.emod_nonneg _ (by omega), Int.emod_lt_of_pos _ (by omega)⟩
    · obtain ⟨r, y3, y4, rfl, c, rl, rk⟩ := h
      obtain ⟨gvs, hgv, _⟩ := b.sq
      obtain ⟨vs4, k1, k2, b4⟩ := b.push mono_mr c.s (c.done (mono_t2 mono_int mono_int))
      refine ⟨_, rfl, .inl ⟨rfl, _, SqL.of k1⟩, _, rfl, g, vs4, _, rfl, rfl, k1, smlt (m := 1000) (by omega), ?_⟩
      refine ⟨_, _, _, _, _, rfl, b4, by simp [hl], fun p hp => ?_⟩
      rcases List.mem_append.mp hp with h | h
      · exact hk p h
      · rw [List.mem_singleton.mp h]
        exact ⟨by omega, rk⟩
  · obtain ⟨R, y1, y2, y3, y4, rfl, b, hl, hk⟩ := h
    exact ⟨_, rfl, q _ R _ b.s (mono_ms.up (newp_same _ _) (b.done mono_mr)) ⟨n1, n6, m1, m3, by omega, hk⟩⟩
def spOther (K : PySem.W.Frag) : Sp := fun vs H Q _ => ∃ (e : Addr) (x : Str), vs = [.ref e] ∧ H e = some (xcO e (clK K x)) ∧ x ∈ xRs ∧ ∀ H', Same H H' → Q (.bl false) H'
theorem kt (XC : XT K mg "GarthError" xRs xNs) {x y : Str} (hx : x ∈ xRs) (hy : y ∈ xNs) (hn : y ∉ xRs) : PySem.W.kitOne K (.ref (clK K x)) (.ref (clK K y)) = some false := by
  have h := XC.one x hx y hy
  have ne : ¬ x = y := fun e => hn (by rw [← e]; exact hx)
  rwa [decide_eq_false ne] at h
theorem ok_other (F : DefAt K mg "_law_is_other" s_law_is_other ["_law_error"]) (T : Txt mg) (XC : XT K mg "GarthError" xRs xNs) : Dn P w K mg base "_law_is_other" 1 ["_law_error"] (spOther K) := by
  have sc := sc_law_is_other
  refine F.ok sc (fun vs H Q E h => ?_) (fun f cdv A outer s H vs Q E hr h => ?_)
  · obtain ⟨_, _, rfl, _⟩ := h; rfl
  obtain ⟨e, x, rfl, he, hx, q⟩ := h
  have k := XC.k x hx
  refine ⟨_, (pss_cons (ps_set (i := 1) sc.nd rfl (Or.inl rfl) (pe_lst (pa_cons (pe_callB call_isiE rfl T.b_isinstance PyProof.Rows.boot_isinstance (pa_cons (pv 0) (pa_cons (pe_glob (v := .ref (clK K "NoAmount")) rfl (XC.m "NoAmount" (by decide)) rfl) pa_nil))) (pa_cons (pe_callB call_isiE rfl T.b_isinstance PyProof.Rows.boot_isinstance (pa_cons (pv 0) (pa_cons (pe_glob (v := .ref (clK K "NoHand")) rfl (XC.m "NoHand" (by decide)) rfl) pa_nil))) (pa_cons (pe_callB call_isiE rfl T.b_isinstance PyProof.Rows.boot_isinstance (pa_cons (pv 0) (pa_cons (pe_glob (v := .ref (clK K "NoMove")) rfl (XC.m "NoMove" (by decide)) rfl) pa_nil))) pa_nil)))))
      (pss_cons (ps_set (i := 1) sc.nd rfl (Or.inl rfl) (pe_op op_cat (pv 1) (pe_lst (pa_cons (pe_callB call_isiE rfl T.b_isinstance PyProof.Rows.boot_isinstance (pa_cons (pv 0) (pa_cons (pe_glob (v := .ref (clK K "NoName")) rfl (XC.m "NoName" (by decide)) rfl) pa_nil))) (pa_cons (pe_callB call_isiE rfl T.b_isinstance PyProof.Rows.boot_isinstance (pa_cons (pv 0) (pa_cons (pe_glob (v := .ref (clK K "NoPlace")) rfl (XC.m "NoPlace" (by decide)) rfl) pa_nil))) (pa_cons (pe_callB call_isiE rfl T.b_isinstance PyProof.Rows.boot_isinstance (pa_cons (pv 0) (pa_cons (pe_glob (v := .ref (clK K "NoRank")) rfl (XC.m "NoRank" (by decide)) rfl) pa_nil))) pa_nil))))))
      (pss_cons (ps_set (i := 1) sc.nd rfl (Or.inl rfl) (pe_op op_cat (pv 1) (pe_lst (pa_cons (pe_callB call_isiE rfl T.b_isinstance PyProof.Rows.boot_isinstance (pa_cons (pv 0) (pa_cons (pe_glob (v := .ref (clK K "NoRow")) rfl (XC.m "NoRow" (by decide)) rfl) pa_nil))) (pa_cons (pe_callB call_isiE rfl T.b_isinstance PyProof.Rows.boot_isinstance (pa_cons (pv 0) (pa_cons (pe_glob (v := .ref (clK K "NoRule")) rfl (XC.m "NoRule" (by decide)) rfl) pa_nil))) (pa_cons (pe_callB call_isiE rfl T.b_isinstance PyProof.Rows.boot_isinstance (pa_cons (pv 0) (pa_cons (pe_glob (v := .ref (clK K "NoText")) rfl (XC.m "NoText" (by decide)) rfl) pa_nil))) pa_nil))))))
      (pss_cons (ps_set (i := 1) sc.nd rfl (Or.inl rfl) (pe_op op_cat (pv 1) (pe_lst (pa_cons (pe_callB call_isiE rfl T.b_isinstance PyProof.Rows.boot_isinstance (pa_cons (pv 0) (pa_cons (pe_glob (v := .ref (clK K "NoWay")) rfl (XC.m "NoWay" (by decide)) rfl) pa_nil))) (pa_cons (pe_callB call_isiE rfl T.b_isinstance PyProof.Rows.boot_isinstance (pa_cons (pv 0) (pa_cons (pe_glob (v := .ref (clK K "NoWish")) rfl (XC.m "NoWish" (by decide)) rfl) pa_nil))) (pa_cons (pe_callB call_isiE rfl T.b_isinstance PyProof.Rows.boot_isinstance (pa_cons (pv 0) (pa_cons (pe_glob (v := .ref (clK K "TooMany")) rfl (XC.m "TooMany" (by decide)) rfl) pa_nil))) pa_nil))))))
      (pss_one (ps_ret (pe_callB (call_anyL rfl) rfl T.b_any PyProof.Rows.boot_any (pa_cons (pv 1) pa_nil)))))))), ?_⟩
  refine ⟨_, rfl, e, _, _, _, rfl, he, k, kt XC hx (y := "NoAmount") (by decide) (by decide), _, rfl, e, _, _, _, rfl, he, k, kt XC hx (y := "NoHand") (by decide) (by decide), _, rfl, e, _, _, _, rfl, he, k, kt XC hx (y := "NoMove") (by decide) (by decide), (by show 3 ≤ sizeLine; decide), fun p1 h1 => ?_⟩
  have s1 := same_upd h1 (.lst [V.bl false, .bl false, .bl false])
  have k1 : upd H p1 (.lst [V.bl false, .bl false, .bl false]) p1 = some (.lst [V.bl false, .bl false, .bl false]) := upd_same
  generalize upd H p1 (.lst [V.bl false, .bl false, .bl false]) = H1 at s1 k1 ⊢
  replace he := s1 _ _ he
  refine ⟨_, rfl, _, rfl, e, _, _, _, rfl, he, k, kt XC hx (y := "NoName") (by decide) (by decide), _, rfl, e, _, _, _, rfl, he, k, kt XC hx (y := "NoPlace") (by decide) (by decide), _, rfl, e, _, _, _, rfl, he, k, kt XC hx (y := "NoRank") (by decide) (by decide), (by show 3 ≤ sizeLine; decide), fun p2 h2 => ?_⟩
  refine ⟨p1, p2, _, _, rfl, rfl, same_upd h2 _ _ _ k1, upd_same, (by show 6 ≤ sizeLine; decide), fun p3 h3 => ?_⟩
  have s2 := s1.trans ((same_upd h2 (.lst [V.bl false, .bl false, .bl false])).trans (same_upd h3 (.lst ([V.bl false, .bl false, .bl false] ++ [V.bl false, .bl false, .bl false]))))
  replace he := ((same_upd h2 (.lst [V.bl false, .bl false, .bl false])).trans (same_upd h3 (.lst ([V.bl false, .bl false, .bl false] ++ [V.bl false, .bl false, .bl false])))) _ _ he
  have k3 : upd (upd H1 p2 (.lst [V.bl false, .bl false, .bl false])) p3 (.lst ([V.bl false, .bl false, .bl false] ++ [V.bl false, .bl false, .bl false])) p3 = some (.lst (List.replicate 6 (V.bl false))) := upd_same
  generalize upd (upd H1 p2 (.lst [V.bl false, .bl false, .bl false])) p3 (.lst ([V.bl false, .bl false, .bl false] ++ [V.bl false, .bl false, .bl false])) = H2 at s2 he k3 ⊢
  refine ⟨_, rfl, _, rfl, e, _, _, _, rfl, he, k, kt XC hx (y := "NoRow") (by decide) (by decide), _, rfl, e, _, _, _, rfl, he, k, kt XC hx (y := "NoRule") (by decide) (by decide), _, rfl, e, _, _, _, rfl, he, k, kt XC hx (y := "NoText") (by decide) (by decide), (by show 3 ≤ sizeLine; decide), fun p4 h4 => ?_⟩
  refine ⟨p3, p4, _, _, rfl, rfl, same_upd h4 _ _ _ k3, upd_same, (by show 9 ≤ sizeLine; decide), fun p5 h5 => ?_⟩
  have s3 := (same_upd h4 (.lst [V.bl false, .bl false, .bl false])).trans (same_upd h5 (.lst (List.replicate 6 (V.bl false) ++ [V.bl false, .bl false, .bl false])))
  replace he := s3 _ _ he
  replace s3 := s2.trans s3
  have k5 : upd (upd H2 p4 (.lst [V.bl false, .bl false, .bl false])) p5 (.lst (List.replicate 6 (V.bl false) ++ [V.bl false, .bl false, .bl false])) p5 = some (.lst (List.replicate 9 (V.bl false))) := upd_same
  generalize upd (upd H2 p4 (.lst [V.bl false, .bl false, .bl false])) p5 (.lst (List.replicate 6 (V.bl false) ++ [V.bl false, .bl false, .bl false])) = H3 at s3 he k5 ⊢
  refine ⟨_, rfl, _, rfl, e, _, _, _, rfl, he, k, kt XC hx (y := "NoWay") (by decide) (by decide), _, rfl, e, _, _, _, rfl, he, k, kt XC hx (y := "NoWish") (by decide) (by decide), _, rfl, e, _, _, _, rfl, he, k, kt XC hx (y := "TooMany") (by decide) (by decide), (by show 3 ≤ sizeLine; decide), fun p6 h6 => ?_⟩
  refine ⟨p5, p6, _, _, rfl, rfl, same_upd h6 _ _ _ k5, upd_same, (by show 12 ≤ sizeLine; decide), fun p7 h7 => ?_⟩
  exact ⟨_, rfl, p7, List.replicate 12 false, rfl, SqL.of upd_same, q _ (s3.trans ((same_upd h6 _).trans (same_upd h7 _)))⟩
def spNoM : Sp := fun vs H Q _ => ∃ (z : Int) (v : V) (R : List MRow), vs = [.int z, v] ∧ rMs H R v ∧ R.length ≤ 60 ∧ (∀ r ∈ R, r.length ≤ 60) ∧ ¬ MOk z R ∧ ∀ H', Same H H' → Q (.bl true) H'
theorem ok_noM (F : DefAt K mg "_law_no_machine" s_law_no_machine ["_law_start", "_law_rows_here"]) (T : Txt mg) (XC : XT K mg "GarthError" xRs xNs) (D_machine_of : DnX P w K mg base "machine_of" 5 ["start", "rows"] (spMO K)) (D_law_is_other : Dn P w K mg base "_law_is_other" 1 ["_law_error"] (spOther K)) : Dn P w K mg base "_law_no_machine" 6 ["_law_start", "_law_rows_here"] spNoM := by
  have sc := sc_law_no_machine
  refine F.ok sc (fun vs H Q E h => ?_) (fun f cdv A outer s H vs Q E hr h => ?_)
  · obtain ⟨_, _, _, rfl, _⟩ := h; rfl
  obtain ⟨z, v, R, rfl, hv, few, few2, no, q⟩ := h
  refine ⟨_, (pss_cons (ps_set (i := 2) sc.nd rfl (Or.inl rfl) pe_non)
      (pss_cons (ps_tryE (i := 3) D_machine_of hr (pa_cons (pv 0) (pa_cons (pv 1) pa_nil)) (XC.m "GarthError" (by decide)) (fun _ => (pss_one (ps_set (i := 2) sc.nd rfl (Or.inl rfl) (pv 3)))) sc.nd rfl rfl)
      (pss_cons (ps_if (PW.pt (pw_or (pt_not (pt_val (pe_callB call_isiE rfl T.b_isinstance PyProof.Rows.boot_isinstance (pa_cons (pv 2) (pa_cons (pe_glob (v := .ref (clK K "NoMachine")) rfl (XC.m "NoMachine" (by decide)) rfl) pa_nil))))) (pw_or1 (pt_not (pt_val (pe_callB (call_isiV (T := "ValueError")) rfl T.b_isinstance PyProof.Rows.boot_isinstance (pa_cons (pv 2) (pa_cons (pe_bltn (v := .ty "ValueError") rfl T.b_ValueError boot_VE rfl) pa_nil))))))))
      (pss_one (ps_ret pe_bl))
      pss_nil)
      (pss_one (ps_ret (pe_and (pe_not (pe_callB call_isiE rfl T.b_isinstance PyProof.Rows.boot_isinstance (pa_cons (pv 2) (pa_cons (pe_glob (v := .ref (clK K "NoAsk")) rfl (XC.m "NoAsk" (by decide)) rfl) pa_nil)))) (pe_one (pe_not (pe_dn D_law_is_other hr (pa_cons (pv 2) pa_nil)))))))))), ?_⟩
  refine ⟨_, rfl, _, rfl, z, _, R, rfl, hv, few, few2, fun ok => absurd ok no, fun _ H' s' => ?_⟩
  refine ⟨_, rfl, XC.hit "NoMachine" (by decide), fun ea hea => ?_⟩
  have he : upd H' ea (xcO ea (clK K "NoMachine")) ea = some (xcO ea (clK K "NoMachine")) := upd_same
  have s7 := s'.trans (same_upd hea (xcO ea (clK K "NoMachine")))
  generalize upd H' ea (xcO ea (clK K "NoMachine")) = H9 at he s7 ⊢
  refine ⟨_, rfl, _, rfl, ea, _, _, _, rfl, he, XC.k "NoMachine" (by decide), XC.one "NoMachine" (by decide) "NoMachine" (by decide), _, rfl, ?_⟩
  refine ite2 (fun z => absurd z (by decide +kernel)) (fun _ => ?_)
  refine ⟨_, rfl, ea, _, _, rfl, he, XC.k "NoMachine" (by decide), XC.val "NoMachine" (by decide), _, rfl, iteF ?_⟩
  refine ⟨_, rfl, ea, _, _, _, rfl, he, XC.k "NoMachine" (by decide), XC.one "NoMachine" (by decide) "NoAsk" (by decide), _, rfl, ?_⟩
  refine ⟨_, rfl, ?_⟩
  refine ite2 (fun _ => ?_) (fun z => absurd (by decide +kernel) z)
  exact ⟨_, rfl, ea, "NoMachine", rfl, he, by decide, fun H10 s10 => ⟨_, rfl, q _ (s7.trans s10)⟩⟩
def spNoA : Sp := fun vs H Q _ => ∃ (v : V) (z : Int) (R : List MRow) (la : Addr) (ks : List Int), vs = [v, .ref la] ∧ rT2 rInt rMs H (z, R) v ∧ H la = some (.lst (ks.map V.int)) ∧ R.length ≤ 60 ∧ (∀ r ∈ R, r.length ≤ 60) ∧ ks.length ≤ 60 ∧ MOk z R ∧ (∃ k ∈ ks, ¬ AskOk R k) ∧ ∀ H', Same H H' → Q (.bl true) H'
theorem ok_noA (F : DefAt K mg "_law_no_ask" s_law_no_ask ["_law_machine", "_law_asked"]) (T : Txt mg) (XC : XT K mg "GarthError" xRs xNs) (D_told : DnX P w K mg base "told" 4 ["machine", "asks"] (spTold K)) (D_law_is_other : Dn P w K mg base "_law_is_other" 1 ["_law_error"] (spOther K)) : Dn P w K mg base "_law_no_ask" 6 ["_law_machine", "_law_asked"] spNoA := by
  have sc := sc_law_no_ask
  refine F.ok sc (fun vs H Q E h => ?_) (fun f cdv A outer s H vs Q E hr h => ?_)
  · obtain ⟨_, _, _, _, _, rfl, _⟩ := h; rfl
  obtain ⟨v, z, R, la, ks, rfl, hv, hla, few, few2, kl, M, no, q⟩ := h
  refine ⟨_, (pss_cons (ps_set (i := 2) sc.nd rfl (Or.inl rfl) pe_non)
      (pss_cons (ps_tryE (i := 3) D_told hr (pa_cons (pv 0) (pa_cons (pv 1) pa_nil)) (XC.m "GarthError" (by decide)) (fun _ => (pss_one (ps_set (i := 2) sc.nd rfl (Or.inl rfl) (pv 3)))) sc.nd rfl rfl)
      (pss_cons (ps_if (PW.pt (pw_or (pt_not (pt_val (pe_callB call_isiE rfl T.b_isinstance PyProof.Rows.boot_isinstance (pa_cons (pv 2) (pa_cons (pe_glob (v := .ref (clK K "NoAsk")) rfl (XC.m "NoAsk" (by decide)) rfl) pa_nil))))) (pw_or1 (pt_not (pt_val (pe_callB (call_isiV (T := "ValueError")) rfl T.b_isinstance PyProof.Rows.boot_isinstance (pa_cons (pv 2) (pa_cons (pe_bltn (v := .ty "ValueError") rfl T.b_ValueError boot_VE rfl) pa_nil))))))))
      (pss_one (ps_ret pe_bl))
      pss_nil)
      (pss_one (ps_ret (pe_and (pe_not (pe_callB call_isiE rfl T.b_isinstance PyProof.Rows.boot_isinstance (pa_cons (pv 2) (pa_cons (pe_glob (v := .ref (clK K "NoMachine")) rfl (XC.m "NoMachine" (by decide)) rfl) pa_nil)))) (pe_one (pe_not (pe_dn D_law_is_other hr (pa_cons (pv 2) pa_nil)))))))))), ?_⟩
  refine ⟨_, rfl, _, rfl, _, z, R, la, ks, rfl, hv, hla, few, few2, kl, M, fun ok => absurd no (fun ⟨k, hk, n⟩ => n (ok k hk)), fun _ H' s' => ?_⟩
  refine ⟨_, rfl, XC.hit "NoAsk" (by decide), fun ea hea => ?_⟩
  have he : upd H' ea (xcO ea (clK K "NoAsk")) ea = some (xcO ea (clK K "NoAsk")) := upd_same
  have s7 := s'.trans (same_upd hea (xcO ea (clK K "NoAsk")))
  generalize upd H' ea (xcO ea (clK K "NoAsk")) = H9 at he s7 ⊢
  refine ⟨_, rfl, _, rfl, ea, _, _, _, rfl, he, XC.k "NoAsk" (by decide), XC.one "NoAsk" (by decide) "NoAsk" (by decide), _, rfl, ?_⟩
  refine ite2 (fun z => absurd z (by decide +kernel)) (fun _ => ?_)
  refine ⟨_, rfl, ea, _, _, rfl, he, XC.k "NoAsk" (by decide), XC.val "NoAsk" (by decide), _, rfl, iteF ?_⟩
  refine ⟨_, rfl, ea, _, _, _, rfl, he, XC.k "NoAsk" (by decide), XC.one "NoAsk" (by decide) "NoMachine" (by decide), _, rfl, ?_⟩
  refine ⟨_, rfl, ?_⟩
  refine ite2 (fun _ => ?_) (fun z => absurd (by decide +kernel) z)
  exact ⟨_, rfl, ea, "NoAsk", rfl, he, by decide, fun H10 s10 => ⟨_, rfl, q _ (s7.trans s10)⟩⟩
def spNoS (C : Addr) : Sp := fun vs H Q _ => ∃ (x dx l : Addr) (z k : Int) (R : List MRow) (r : MRow), vs = [.ref x, .int k] ∧ H x = some (.ins C dx (flR z l)) ∧ rMs H R (.ref l) ∧ 0 ≤ z ∧ R[z.toNat]? = some r ∧ ¬ (0 ≤ k ∧ k < r.length) ∧ ∀ H', Same H H' → Q (.bl true) H'
theorem ok_noS {C : Addr} (F : DefAt K mg "_law_no_step" s_law_no_step ["_law_runner", "_law_ask"]) (T : Txt mg) (XC : XT K mg "GarthError" xRs xNs) (XS_NoAsk : PySem.W.exmOne K (.ref (clK K "NoAsk")) (.ref (clK K "NoAsk")) = some true) (CL_Runner : ClsAt K mg "Runner" C RunFs) (D_Runner_step : DnMX P w K mg base C "step" 3 ["self", "ask"] (spStep C K)) : Dn P w K mg base "_law_no_step" 4 ["_law_runner", "_law_ask"] (spNoS C) := by
  have sc := sc_law_no_step
  refine F.ok sc (fun vs H Q E h => ?_) (fun f cdv A outer s H vs Q E hr h => ?_)
  · obtain ⟨_, _, _, _, _, _, _, rfl, _⟩ := h; rfl
  obtain ⟨x, dx, l, z, k, R, r, rfl, hx, hR, z0, hr', no, q⟩ := h
  refine ⟨_, (pss_cons (ps_set (i := 2) sc.nd rfl (Or.inl rfl) pe_bl)
      (pss_cons (ps_tryU (px_expr (pex_dnM CL_Runner.cl D_Runner_step hr (pv 0) (pa_cons (pv 1) pa_nil))) (XC.m "NoAsk" (by decide)) (fun _ => (pss_one (ps_set (i := 2) sc.nd rfl (Or.inl rfl) pe_bl))))
      (pss_one (ps_ret (pv 2))))), ?_⟩
  refine ⟨_, rfl, x, dx, _, rfl, hx, flR_no (by decide +kernel), _, rfl, x, dx, l, z, k, R, r, rfl, hx, hR, z0, hr', fun p k0 hp => absurd ⟨k0, by have := (List.getElem?_eq_some_iff.mp hp).1; omega⟩ no, fun _ H' s' => ?_⟩
  refine ⟨_, rfl, XS_NoAsk, fun ea hea => ?_⟩
  exact ⟨_, rfl, q _ (s'.trans (same_upd hea _))⟩
def Bad (n m : Int) (r : MRow) : Prop := r = [] ∨ (1 < n ∧ (r.length : Int) ≠ m) ∨ ∃ q ∈ r, ¬ (0 ≤ q.2 ∧ q.2 < n)
theorem bad_put {n m z : Int} {R : List MRow} (I : MIn n m R) {p : Nat} (hp : p < R.length) {r : MRow} (b : Bad n m r) : ¬ MOk z (R.take p ++ [r] ++ R.drop (p + 1)) := fun M => by
  have hl : (R.take p ++ [r] ++ R.drop (p + 1)).length = R.length := by
    rw [List.length_append, List.length_append, List.length_take, List.length_drop, List.length_singleton]; omega
  have hr := M.go r (List.mem_append_left _ (List.mem_append_right _ (List.mem_singleton.mpr rfl)))
  rw [hl] at hr
  have nl := I.len
  rcases b with rfl | ⟨n1, hm⟩ | ⟨q, hq, hb⟩
  · exact hr.ne rfl
  · obtain ⟨j, hj, hjp⟩ : ∃ j, j < R.length ∧ j ≠ p := by
      by_cases e : p = 0
      · exact ⟨1, by omega, by omega⟩
      · exact ⟨0, by omega, by omega⟩
    have mem : R[j] ∈ R.take p ++ [r] ++ R.drop (p + 1) := by
      rcases Nat.lt_or_ge j p with h | h
      · refine List.mem_append_left _ (List.mem_append_left _ (List.mem_of_getElem? (i := j) ?_))
        rw [List.getElem?_take, if_pos h]; exact List.getElem?_eq_getElem hj
      · refine List.mem_append_right _ (List.mem_of_getElem? (i := j - (p + 1)) ?_)
        rw [List.getElem?_drop, show p + 1 + (j - (p + 1)) = j by omega]; exact List.getElem?_eq_getElem hj
    have h2 := (M.go _ mem).len
    have h3 := hr.len
    have h4 := (I.row _ (List.getElem_mem hj)).1
    exact hm (by omega)
  · exact hb (by have := hr.go q hq; omega)
theorem cutV_up (us : List V) (k : Nat) (h : k ≤ us.length) : cutV us none (some (k : Int)) = us.take k := by
  unfold cutV
  rw [HT.sIx_nat, HT.sIx_none, Nat.min_eq_left h, List.drop_zero, Nat.sub_zero]
theorem cutV_fr (us : List V) (k : Nat) (h : k ≤ us.length) : cutV us (some (k : Int)) none = us.drop k := by
  unfold cutV
  rw [HT.sIx_nat, HT.sIx_none, Nat.min_eq_left h, List.take_of_length_le (by simp)]
theorem pr_take {α β : Type} {F : α → β → Prop} : ∀ {xs : List α} {ys : List β} (n : Nat), Paired F xs ys → Paired F (xs.take n) (ys.take n)
  | _, _, 0, _ => by rw [List.take_zero, List.take_zero]; exact .nil
  | _, _, _ + 1, .nil => .nil
  | _, _, n + 1, .cons r t => .cons r (pr_take n t)
theorem pr_drop {α β : Type} {F : α → β → Prop} : ∀ {xs : List α} {ys : List β} (n : Nat), Paired F xs ys → Paired F (xs.drop n) (ys.drop n)
  | _, _, 0, h => h
  | _, _, _ + 1, .nil => .nil
  | _, _, n + 1, .cons _ t => pr_drop n t
theorem pr_set {α β : Type} {F : α → β → Prop} {x : α} {y : β} (h : F x y) : ∀ {xs : List α} {ys : List β} (n : Nat), Paired F xs ys → Paired F (xs.set n x) (ys.set n y)
  | _, _, _, .nil => .nil
  | _, _, 0, .cons _ t => .cons h t
  | _, _, n + 1, .cons r t => .cons r (pr_set h n t)
theorem pr_last {α β : Type} {F : α → β → Prop} {xs : List α} {ys : List β} (h : Paired F xs ys) : Paired F xs.dropLast ys.dropLast := by
  rw [List.dropLast_eq_take, List.dropLast_eq_take, pr_len h]; exact pr_take _ h
theorem tu_lt {H H' : Hp} (h : ∀ b us, H b = some (.tup us) → H' b = some (.tup us)) {r : MRow} {vs : List V} (p : Paired (rT2 rInt rInt H) r vs) : Paired (rT2 rInt rInt H') r vs := L2.Paired.imp' (fun x u z => by
  obtain ⟨t, x, y, rfl, ht, e1, e2⟩ := z
  exact ⟨t, x, y, rfl, h _ _ ht, e1, e2⟩) p
theorem mr_put {H : Hp} {g : Addr} {vs vs' : List V} {r : MRow} (h : H g = some (.lst vs)) (p : Paired (rT2 rInt rInt H) r vs') : rMR (upd H g (.lst vs')) r (.ref g) :=
  ⟨g, vs', rfl, upd_same, tu_lt (fun b us e => by rw [upd_ne (fun z => by rw [z, h] at e; cases e)]; exact e) p⟩
theorem odd_n {n far c : Int} (hn : 1 ≤ n) (hf : n ≤ far) : ∃ v : Int, atI [V.int n, .int (-1), .int far] (c % 3) = some (.int v) ∧ ¬ (0 ≤ v ∧ v < n) := by
  have m : 0 ≤ c % 3 ∧ c % 3 < 3 := ⟨Int.emod_nonneg _ (by decide), Int.emod_lt_of_pos _ (by decide)⟩
  generalize c % 3 = j at m
  obtain rfl | rfl | rfl : j = 0 ∨ j = 1 ∨ j = 2 := by omega
  · exact ⟨_, atI_nat (j := 0) rfl, by omega⟩
  · exact ⟨_, atI_nat (j := 1) rfl, by omega⟩
  · exact ⟨_, atI_nat (j := 2) rfl, by omega⟩
def Mid (H : Hp) (sa a : Addr) (st n far wr way p : Int) (A : MRow → Prop) : St → Hp → Prop := fun σ' H1 => ∃ (rr : Addr) (r : MRow) (y : Option V), σ' = [some (.ref sa), some (.int st), some (.ref a), some (.int n), some (.int far), some (.int wr), some (.int way), some (.int p), some (.ref rr), y] ∧ Same H H1 ∧ H rr = none ∧ rMR H1 r (.ref rr) ∧ r.length ≤ 10 ∧ A r
theorem de {x y : Int} : decide (V.int x = V.int y) = decide (x = y) := by rw [Bool.eq_iff_iff]; simp
def spSp (K : PySem.W.Frag) : Sp := fun vs H Q _ => ∃ (sa : Addr) (ns : List Int) (st n m : Int) (v : V) (R : List MRow), vs = [.ref sa, .int st, v] ∧ SqL K H sa (ns.map V.int) ∧ ns.length ≤ 63 ∧ rMs H R v ∧ MIn n m R ∧
  ∀ (p : Addr) (z : Int) (u : V) (R' : List MRow) (H' : Hp), Same H H' → H' p = some (.lst [.int z, u]) → rMs H' R' u → ¬ MOk z R' → R'.length ≤ 60 → (∀ r ∈ R', r.length ≤ 60) → Q (.ref p) H'
theorem ok_sp (F : DefAt K mg "_law_spoiled" s_law_spoiled ["_law_script", "_law_start", "_law_rows_here"]) (T : Txt mg) (D_law_at : Dn P w K mg base "_law_at" 1 ["_law_script", "_law_k"] (spAt K)) : Dn P w K mg base "_law_spoiled" 2 ["_law_script", "_law_start", "_law_rows_here"] (spSp K) := by
  have sc := sc_law_spoiled
  refine F.ok sc (fun vs H Q E h => ?_) (fun f cdv A outer s H vs Q E hr h => ?_)
  · obtain ⟨_, _, _, _, _, _, _, rfl, _⟩ := h; rfl
  obtain ⟨sa, ns, st, n, m, v, R, rfl, hS, h63, hR, I, q⟩ := h
  have n1 := I.n1
  have n6 := I.n6
  have m1 := I.m1
  have m3 := I.m3
  have nl := I.len
  obtain ⟨a, us, rfl, ha, ul, hat⟩ := ms_parts hR
  have un : ((us.length : Nat) : Int) = n := by omega
  refine ⟨_, (pss_cons (ps_set (i := 3) sc.nd rfl (Or.inl rfl) (pe_callB (clLen (K := K) rfl) rfl T.b_len PySem.boot_len (pa_cons (pv 2) pa_nil)))
      (pss_cons (ps_set (i := 4) sc.nd rfl (Or.inl rfl) (pe_op op_add (pv 3) (pe_op op_mod (pe_dn D_law_at hr (pa_cons (pv 0) (pa_cons pe_int pa_nil))) (pe_op op_pow pe_int pe_int))))
      (pss_cons (ps_set (i := 5) sc.nd rfl (Or.inl rfl) (pe_ix (ixL (K := K) rfl) (pe_lst (pa_cons (pv 3) (pa_cons (pe_un un_neg pe_int) (pa_cons (pv 4) pa_nil)))) (pe_op op_mod (pe_dn D_law_at hr (pa_cons (pv 0) (pa_cons pe_int pa_nil))) pe_int) (fun _ _ => rfl)))
      (pss_cons (ps_set (i := 6) sc.nd rfl (Or.inl rfl) (pe_op op_mod (pe_dn D_law_at hr (pa_cons (pv 0) (pa_cons pe_int pa_nil))) pe_int))
      (pss_cons (ps_set (i := 7) sc.nd rfl (Or.inl rfl) (pe_op op_mod (pe_dn D_law_at hr (pa_cons (pv 0) (pa_cons pe_int pa_nil))) (pv 3)))
      (pss_cons (ps_set (i := 8) sc.nd rfl (Or.inl rfl) (pe_callTy (clList (K := K) rfl) rfl T.b_list PyProof.Rows.boot_list (pa_cons (pe_ix (ixL (K := K) rfl) (pv 2) (pv 7) (fun _ _ => rfl)) pa_nil)))
      (pss_cons (ps_if (pt_cmpR op_eq (pv 6) pe_int (nomark _))
      (pss_one (ps_ret (pe_lst (pa_cons (pv 1) (pa_cons (pe_ix (ixL (K := K) rfl) (pe_lst (pa_cons (pe_lst pa_nil) (pa_cons (pe_lc (defScope s_law_spoiled) ["_law_script", "_law_start", "_law_rows_here", "_law_states", "_law_far", "_law_wrong", "_law_way", "_law_place", "_law_row", "_law_ask"] ["_law_one"] 1 [] (pi_list (pv 2)) (fun _ _ _ _ _ _ => (ptg_name (show List.Nodup (["_law_one"] : List Str) by decide +kernel) rfl rfl)) (fun _ _ _ _ _ _ => pts_nil) (fun _ _ _ _ _ _ => (pe_lst pa_nil))) pa_nil))) (pe_op op_mod (pe_dn D_law_at hr (pa_cons (pv 0) (pa_cons pe_int pa_nil))) pe_int) (fun _ _ => rfl)) pa_nil)))))
      pss_nil)
      (pss_cut (ps_if (pt_cmpR op_eq (pv 6) pe_int (nomark _))
      (pss_one (ps_set (i := 8) sc.nd rfl (Or.inl rfl) (pe_lst pa_nil)))
      pss_nil)
      (pss_cut (ps_if (PW.pt (pw_and (pt_cmpR op_eq (pv 6) pe_int (nomark _)) (pw_and1 (pt_cmpR op_gt (pv 3) pe_int (nomark _)))))
      (pss_one (ps_expr (pe_bm PySem.F.plainAttrs_list PySem.F.slot_list_append PySem.F.type_list_append mt_append (pv 8) (pa_cons (pe_ix (ixL (K := K) rfl) (pv 8) pe_int (fun _ _ => rfl)) pa_nil))))
      pss_nil)
      (pss_cut (ps_if (PW.pt (pw_and (pt_cmpR op_eq (pv 6) pe_int (nomark _)) (pw_and1 (pt_cmpR op_gt (pv 3) pe_int (nomark _)))))
      (pss_one (ps_expr (pe_bm0 PySem.F.plainAttrs_list PySem.F.slot_list_pop PySem.F.type_list_pop mt_pop (pv 8))))
      pss_nil)
      (pss_cut (ps_if (PW.pt (pw_or (pt_cmpR op_eq (pv 6) pe_int (nomark _)) (pw_or1 (PW.pt (pw_and (pt_cmpR op_eq (pv 3) pe_int (nomark _)) (pw_and1 (pt_cmpR (inS (K := K) rfl) (pv 6) (pe_tup (pa_cons pe_int (pa_cons pe_int pa_nil))) rfl)))))))
      (pss_cons (ps_set (i := 9) sc.nd rfl (Or.inl rfl) (pe_op op_mod (pe_dn D_law_at hr (pa_cons (pv 0) (pa_cons pe_int pa_nil))) (pe_callB (clLen (K := K) rfl) rfl T.b_len PySem.boot_len (pa_cons (pv 8) pa_nil))))
      (pss_one (ps_asg (pe_tup (pa_cons (pe_ix (ixT (K := K) rfl) (pe_ix (ixL (K := K) rfl) (pv 8) (pv 9) (fun _ _ => rfl)) pe_int (fun _ _ => rfl)) (pa_cons (pv 5) pa_nil))) (pg_sub (pv 8) (pv 9) set_list))))
      pss_nil)
      (pss_cons (ps_if (pt_cmpR op_eq (pv 6) pe_int (nomark _))
      (pss_one (ps_ret (pe_lst (pa_cons (pv 5) (pa_cons (pv 2) pa_nil)))))
      pss_nil)
      (pss_one (ps_ret (pe_lst (pa_cons (pv 1) (pa_cons (pe_op op_cat (pe_op op_cat (pe_slice (slL (K := K) rfl) (pv 2) po_none (po_some (pv 7))) (pe_lst (pa_cons (pv 8) pa_nil))) (pe_slice (slL (K := K) rfl) (pv 2) (po_some (pe_op op_add (pv 7) pe_int)) po_none)) pa_nil))))))))))))))))), ?_⟩
  refine ⟨_, rfl, a, _, rfl, .inl (SqL.of ha), ?_⟩
  rw [un]
  have big : (0 : Int) < 10 ^ (59 : Int).toNat := by decide +kernel
  refine ⟨_, rfl, _, rfl, sa, ns, 1, rfl, hS, h63, by decide, by decide, fun c1 => ?_⟩
  refine ⟨_, _, rfl, rfl, ⟨by decide, by decide, by decide⟩, _, _, rfl, rfl, big, _, _, rfl, rfl, ?_⟩
  obtain ⟨far, hfar⟩ : ∃ far : Int, far = n + c1 % 10 ^ (59 : Int).toNat := ⟨_, rfl⟩
  have hf : n ≤ far := by have := Int.emod_nonneg c1 (b := 10 ^ (59 : Int).toNat) (by omega); omega
  replace hfar : (fun i j : Int => V.int (i + j)) n (c1 % 10 ^ (59 : Int).toNat) = V.int far := by rw [hfar]
  rw [hfar]
  clear hfar
  refine ⟨_, rfl, _, rfl, _, rfl, (by show 3 ≤ sizeLine; decide), fun ol hol => ?_⟩
  have s1 := same_upd hol (.lst [V.int n, .int (-1), .int far])
  have k1 : upd H ol (.lst [V.int n, .int (-1), .int far]) ol = some (.lst [V.int n, .int (-1), .int far]) := upd_same
  generalize upd H ol (.lst [V.int n, .int (-1), .int far]) = H1 at s1 k1 ⊢
  refine ⟨_, rfl, sa, ns, 2, rfl, s1.seq hS, h63, by decide, by decide, fun c2 => ?_⟩
  obtain ⟨wr, hwr, hbad⟩ := odd_n (c := c2) n1 hf
  refine ⟨_, _, rfl, rfl, (show (0 : Int) < 3 by decide), ol, _, _, .int wr, rfl, rfl, SqL.of k1, hwr, ?_⟩
  refine ⟨_, rfl, sa, ns, 3, rfl, s1.seq hS, h63, by decide, by decide, fun c3 => ?_⟩
  refine ⟨_, _, rfl, rfl, (show (0 : Int) < 6 by decide), ?_⟩
  have w0 := Int.emod_nonneg c3 (show (6 : Int) ≠ 0 by decide)
  have w6 := Int.emod_lt_of_pos c3 (show (0 : Int) < 6 by decide)
  generalize hway : c3 % 6 = way at w0 w6
  replace hway : (fun i j : Int => V.int (i % j)) c3 6 = V.int way := by rw [← hway]
  rw [hway]
  clear hway
  refine ⟨_, rfl, sa, ns, 4, rfl, s1.seq hS, h63, by decide, by decide, fun c4 => ?_⟩
  refine ⟨_, rfl, _, _, rfl, rfl, (show (0 : Int) < n by omega), ?_⟩
  have p0 := Int.emod_nonneg c4 (show n ≠ 0 by omega)
  have pn := Int.emod_lt_of_pos c4 (show (0 : Int) < n by omega)
  generalize hpl : c4 % n = p at p0 pn
  replace hpl : (fun i j : Int => V.int (i % j)) c4 n = V.int p := by rw [← hpl]
  rw [hpl]
  clear hpl
  have pl : p.toNat < R.length := by omega
  obtain ⟨u, hu, hru⟩ := hat _ _ (List.getElem?_eq_getElem pl)
  obtain ⟨ar, ur, rfl, har, pr⟩ := mono_mr.up s1 hru
  have rm := (I.row _ (List.getElem_mem pl)).1
  have rln := pr_len pr
  refine ⟨_, rfl, _, rfl, a, us, p, .ref ar, rfl, rfl, SqL.of (s1 _ _ ha), at_int p0 hu, ar, _, rfl, .inl (SqL.of har), fun rr hrr => ?_⟩
  have s2 := s1.trans (same_upd hrr (.lst ur))
  have k2 : rMR (upd H1 rr (.lst ur)) R[p.toNat] (.ref rr) := ⟨rr, ur, rfl, upd_same, paired_mono (mono_t2 mono_int mono_int) (same_upd hrr _) pr⟩
  have f2 := s1.free hrr
  generalize upd H1 rr (.lst ur) = H2 at s2 k2 ⊢
  refine ⟨_, rfl, rfl, _, rfl, ?_⟩
  rw [de]
  refine ite2 (fun c => ?_) (fun c => ?_)
  · refine ⟨_, rfl, Nat.zero_le _, fun e1 he1 => ?_⟩
    have s3 := s2.trans (same_upd he1 (.lst []))
    have k3 : rMs (upd H2 e1 (.lst [])) [] (.ref e1) := ⟨e1, [], rfl, upd_same, .nil⟩
    generalize upd H2 e1 (.lst []) = H3 at s3 k3 ⊢
    refine ⟨_, rfl, a, rfl, ⟨_, SqL.of (s3 _ _ ha)⟩, comp_listD (K := K) (a := a) (xs := us) (fun i ys H4 => Same H3 H4 ∧ Paired (rMR H4) (List.replicate i []) ys) ⟨Same.refl _, .nil⟩ (small (m := 1000) (by omega)) (fun i ys H4 hi h => ?_) (fun i v ys H4 hi h => ?_) (fun ys H4 h lb hlb => ?_)⟩
    · obtain ⟨s4, p4⟩ := h
      refine ⟨SqL.of ((s3.trans s4) _ _ ha), ?_⟩
      rw [← pr_len p4, List.length_replicate]; exact Nat.le_refl _
    · obtain ⟨s4, p4⟩ := h
      refine comp_yes ⟨Nat.zero_le _, fun e2 he2 => ⟨s4.trans (same_upd he2 _), ?_⟩⟩
      rw [List.replicate_succ']
      exact L2.Paired.app (paired_mono mono_mr (same_upd he2 _) p4) (.cons ⟨e2, [], rfl, upd_same, .nil⟩ .nil)
    · obtain ⟨s4, p4⟩ := h
      have s5 := s4.trans (same_upd hlb (.lst ys))
      have k5 : rMs (upd H4 lb (.lst ys)) (List.replicate us.length []) (.ref lb) := ⟨lb, ys, rfl, upd_same, paired_mono mono_mr (same_upd hlb _) p4⟩
      generalize upd H4 lb (.lst ys) = H5 at s5 k5 ⊢
      refine ⟨(by show 2 ≤ sizeLine; decide), fun o2 ho2 => ?_⟩
      have s6 := same_upd ho2 (.lst [V.ref e1, .ref lb])
      have k6 : upd H5 o2 (.lst [V.ref e1, .ref lb]) o2 = some (.lst [V.ref e1, .ref lb]) := upd_same
      have k3' := mono_ms.up (s5.trans s6) k3
      have k5' := mono_ms.up s6 k5
      replace s6 := s3.trans (s5.trans s6)
      generalize upd H5 o2 (.lst [V.ref e1, .ref lb]) = H6 at s6 k6 k3' k5' ⊢
      refine ⟨_, rfl, sa, ns, 2, rfl, s6.seq hS, h63, by decide, by decide, fun c5 => ?_⟩
      obtain ⟨u', R', hu', hR', nR', lR', rR'⟩ : ∃ (u' : V) (R' : List MRow), atI [V.ref e1, .ref lb] (c5 % 2) = some u' ∧ rMs H6 R' u' ∧ ¬ MOk st R' ∧ R'.length ≤ 60 ∧ ∀ r ∈ R', r.length ≤ 60 := by
        have b2 : 0 ≤ c5 % 2 ∧ c5 % 2 < 2 := ⟨Int.emod_nonneg _ (by decide), Int.emod_lt_of_pos _ (by decide)⟩
        generalize c5 % 2 = j at b2
        obtain rfl | rfl : j = 0 ∨ j = 1 := by omega
        · refine ⟨_, [], atI_nat (j := 0) rfl, k3', fun M => ?_, Nat.zero_le _, fun r hr => by cases hr⟩
          have := M.st; simp at this; omega
        · refine ⟨_, _, atI_nat (j := 1) rfl, k5', fun M => ?_, by rw [List.length_replicate]; omega, fun r hr => ?_⟩
          · exact (M.go [] (List.mem_replicate.mpr ⟨by omega, rfl⟩)).ne rfl
          · rw [List.eq_of_mem_replicate hr]; exact Nat.zero_le _
      refine ⟨_, _, rfl, rfl, (show (0 : Int) < 2 by decide), o2, _, _, u', rfl, rfl, SqL.of k6, hu', (by show 2 ≤ sizeLine; decide), fun p7 hp7 => ?_⟩
      exact q p7 st u' R' _ (s6.trans (same_upd hp7 _)) upd_same (mono_ms.up (same_upd hp7 _) hR') nR' lR' rR'
  have c0 : ¬ way = 0 := fun z => c (decide_eq_true z)
  refine ⟨Mid H sa a st n far wr way p fun r => (way = 1 → r = []) ∧ (way ≠ 1 → r = R[p.toNat]), ?_, ?_⟩
  · refine ⟨_, rfl, rfl, _, rfl, ?_⟩
    rw [de]
    refine ite2 (fun c => ?_) (fun c => ?_)
    · have c1 := of_decide_eq_true c
      refine ⟨Nat.zero_le _, fun e1 he1 => ?_⟩
      exact ⟨e1, [], _, rfl, s2.trans (same_upd he1 _), s2.free he1, ⟨e1, [], rfl, upd_same, .nil⟩, Nat.zero_le _, fun _ => rfl, fun z => absurd c1 z⟩
    · exact ⟨rr, _, _, rfl, s2, f2, k2, by omega, fun z => absurd (decide_eq_true z) c, fun _ => rfl⟩
  rintro σ' H3 ⟨r3, r, y3, rfl, s3, f3, k3, l3, a1, a2⟩
  clear k2 f2 s2
  refine ⟨Mid H sa a st n far wr way p fun r => (way = 1 → r = []) ∧ (way = 2 → 1 < n → (r.length : Int) = m + 1) ∧ (way ≠ 1 → ¬ (way = 2 ∧ 1 < n) → r = R[p.toNat]), ?_, ?_⟩
  · refine ⟨_, rfl, rfl, _, rfl, ?_⟩
    rw [de]
    refine ite2 (fun c => ?_) (fun c => ?_)
    rotate_left
    · have c2 : ¬ way = 2 := fun z => c (decide_eq_true z)
      exact iteF ⟨r3, r, _, rfl, s3, f3, k3, l3, a1, fun z => absurd z c2, fun z _ => a2 z⟩
    have c2 := of_decide_eq_true c
    refine ⟨_, rfl, _, _, rfl, rfl, _, rfl, ?_⟩
    refine ite2 (fun c => ?_) (fun c => ?_)
    rotate_left
    · have c3 : ¬ 1 < n := fun z => c (decide_eq_true z)
      exact ⟨r3, r, _, rfl, s3, f3, k3, l3, a1, fun _ z => absurd z c3, fun z _ => a2 z⟩
    have e := a2 (by omega)
    subst e
    obtain ⟨_, vs3, e, h3, p3⟩ := k3
    cases e
    have rl3 := pr_len p3
    have rm' : 0 < R[p.toNat].length := by omega
    obtain ⟨u0, hu0, ru0⟩ := L2.Paired.at p3 (List.getElem?_eq_getElem rm')
    refine ⟨_, rfl, .inl ⟨rfl, _, SqL.of h3⟩, _, rfl, r3, _, _, _, rfl, rfl, SqL.of h3, atI_nat (j := 0) hu0, r3, vs3, _, rfl, rfl, h3, smlt (m := 1000) (by omega), ?_⟩
    refine ⟨r3, _, _, rfl, s3.put f3 _, f3, mr_put h3 (L2.Paired.app p3 (.cons ru0 .nil)), ?_, fun z => by omega, fun _ _ => ?_, fun _ z => absurd ⟨c2, of_decide_eq_true c⟩ z⟩
    · rw [List.length_append, List.length_singleton]; omega
    · rw [List.length_append, List.length_singleton]; omega
  clear k3 s3 f3 l3 a1 a2
  rintro σ' H4 ⟨r4, r', y4, rfl, s4, f4, k4, l4, b1, b2, b3⟩
  refine ⟨Mid H sa a st n far wr way p fun r => (way = 1 → Bad n m r) ∧ (way = 2 → 1 < n → Bad n m r) ∧ (way = 3 → 1 < n → Bad n m r) ∧ (way ≠ 1 → ¬ ((way = 2 ∨ way = 3) ∧ 1 < n) → r = R[p.toNat]), ?_, ?_⟩
  · have bb1 : way = 1 → Bad n m r' := fun z => .inl (b1 z)
    have bb2 : way = 2 → 1 < n → Bad n m r' := fun z1 z2 => .inr (.inl ⟨z2, by have := b2 z1 z2; omega⟩)
    refine ⟨_, rfl, rfl, _, rfl, ?_⟩
    rw [de]
    refine ite2 (fun c => ?_) (fun c => ?_)
    rotate_left
    · have c3 : ¬ way = 3 := fun z => c (decide_eq_true z)
      exact iteF ⟨r4, r', _, rfl, s4, f4, k4, l4, bb1, bb2, fun z => absurd z c3, fun z1 z2 => b3 z1 (fun ⟨y1, y2⟩ => z2 ⟨.inl y1, y2⟩)⟩
    have c3 := of_decide_eq_true c
    refine ⟨_, rfl, _, _, rfl, rfl, _, rfl, ?_⟩
    refine ite2 (fun c => ?_) (fun c => ?_)
    rotate_left
    · have c4 : ¬ 1 < n := fun z => c (decide_eq_true z)
      exact ⟨r4, r', _, rfl, s4, f4, k4, l4, bb1, bb2, fun _ z => absurd z c4, fun z1 z2 => b3 z1 (fun ⟨y1, y2⟩ => c4 y2)⟩
    have c4 : 1 < n := of_decide_eq_true c
    have e := b3 (by omega) (by omega)
    subst e
    obtain ⟨_, vs4, e, h4, p4⟩ := k4
    cases e
    have rl4 := pr_len p4
    obtain ⟨u0, hu0, ru0⟩ := L2.Paired.at p4 (i := vs4.length - 1) (List.getElem?_eq_getElem (by omega))
    refine ⟨_, rfl, .inl ⟨rfl, _, SqL.of h4⟩, r4, vs4, u0, rfl, rfl, h4, hu0, ?_⟩
    have dl : (R[p.toNat].dropLast.length : Int) = m - 1 := by rw [List.length_dropLast]; omega
    refine ⟨r4, _, _, rfl, s4.put f4 _, f4, mr_put h4 (pr_last p4), ?_, fun z => by omega, fun z => by omega, fun _ _ => .inr (.inl ⟨c4, by omega⟩), fun _ z => absurd ⟨.inr c3, c4⟩ z⟩
    rw [List.length_dropLast]; omega
  clear k4 s4 f4 l4 b1 b2 b3
  rintro σ' H5 ⟨r5, r', y5, rfl, s5, f5, k5, l5, d1, d2, d3, d4⟩
  refine ⟨Mid H sa a st n far wr way p fun r => (1 ≤ way → way ≤ 4 → Bad n m r), ?_, ?_⟩
  · have key : way = 4 ∨ (n = 1 ∧ (way = 2 ∨ way = 3)) → ∃ vs, H5 r5 = some (.lst vs) ∧ Paired (rT2 rInt rInt H5) R[p.toNat] vs ∧ r' = R[p.toNat] := fun z => by
      have e := d4 (by omega) (by omega)
      subst e
      obtain ⟨_, vs5, e, h5, p5⟩ := k5
      cases e
      exact ⟨vs5, h5, p5, rfl⟩
    have no : ¬ (way = 4 ∨ (n = 1 ∧ (way = 2 ∨ way = 3))) → 1 ≤ way → way ≤ 4 → Bad n m r' := fun z z1 z4 => by
      by_cases e1 : way = 1
      · exact d1 e1
      by_cases e2 : way = 2
      · exact d2 e2 (by omega)
      · exact d3 (by omega) (by omega)
    refine ⟨_, rfl, rfl, _, rfl, ?_⟩
    rw [de]
    refine ite2 (fun c => ?_) (fun c => ?_)
    · refine iteT ?_
      have hc : way = 4 ∨ (n = 1 ∧ (way = 2 ∨ way = 3)) := .inl (of_decide_eq_true c)
      have tX := Same.refl H5
      have sX := s5
      obtain ⟨vs5, h5, p5, er⟩ := key hc
      have rl5 := pr_len p5
      subst er
      refine ⟨_, rfl, sa, ns, 5, rfl, sX.seq hS, h63, by decide, by decide, fun c5 => ?_⟩
      refine ⟨_, rfl, r5, _, rfl, .inl (SqL.of (tX _ _ h5)), _, _, rfl, rfl, (show (0 : Int) < ((vs5.length : Nat) : Int) by omega), ?_⟩
      have j0 := Int.emod_nonneg c5 (show ((vs5.length : Nat) : Int) ≠ 0 by omega)
      have jn := Int.emod_lt_of_pos c5 (show (0 : Int) < ((vs5.length : Nat) : Int) by omega)
      generalize hj : c5 % ((vs5.length : Nat) : Int) = j at j0 jn
      replace hj : (fun i j : Int => V.int (i % j)) c5 ((vs5.length : Nat) : Int) = V.int j := by rw [← hj]
      rw [hj]
      clear hj
      have jl : j.toNat < R[p.toNat].length := by omega
      obtain ⟨_, hu0, t, _, _, rfl, ht, rfl, rfl⟩ := L2.Paired.at p5 (List.getElem?_eq_getElem jl)
      refine ⟨_, rfl, _, rfl, r5, vs5, j, .ref t, rfl, rfl, SqL.of (tX _ _ h5), at_int j0 hu0, t, _, _, _, rfl, rfl, SqT.of (tX _ _ ht), atI_nat (j := 0) rfl, _, rfl, (by show 2 ≤ sizeLine; decide), fun tn htn => ?_⟩
      have s9 := tX.trans (same_upd htn (.tup [V.int R[p.toNat][j.toNat].1, .int wr]))
      refine ⟨_, rfl, _, rfl, r5, vs5, j, j.toNat, rfl, rfl, s9 _ _ h5, (by unfold ixN; rw [if_pos j0, if_pos jn]), ?_⟩
      refine ⟨r5, _, _, rfl, (s5.trans s9).put f5 _, f5, mr_put (r := R[p.toNat].set j.toNat (R[p.toNat][j.toNat].1, wr)) (s9 _ _ h5) (pr_set ⟨tn, _, _, rfl, upd_same, rfl, rfl⟩ _ (paired_mono (mono_t2 mono_int mono_int) s9 p5)), ?_, fun _ _ => .inr (.inr ⟨(R[p.toNat][j.toNat].1, wr), ?_, hbad⟩)⟩
      · rw [List.length_set]; exact l5
      · exact List.mem_of_getElem? (i := j.toNat) (by rw [List.getElem?_set_self jl])
    have c4 : ¬ way = 4 := fun z => c (decide_eq_true z)
    refine ⟨_, rfl, rfl, _, rfl, ?_⟩
    rw [de]
    refine ite2 (fun c => ?_) (fun c => ?_)
    rotate_left
    · have c1 : ¬ n = 1 := fun z => c (decide_eq_true z)
      exact iteF ⟨r5, r', _, rfl, s5, f5, k5, l5, no (by omega)⟩
    have c1 : n = 1 := of_decide_eq_true c
    refine ⟨_, rfl, (by show 2 ≤ sizeLine; decide), fun t2 ht2 => ?_⟩
    have tX := same_upd ht2 (.tup [V.int 2, .int 3])
    have k8 : upd H5 t2 (.tup [V.int 2, .int 3]) t2 = some (.tup [V.int 2, .int 3]) := upd_same
    generalize upd H5 t2 (.tup [V.int 2, .int 3]) = H8 at tX k8 ⊢
    have sX := s5.trans tX
    refine ⟨t2, _, rfl, .inr (SqT.of k8), rfl, rfl, _, rfl, ?_⟩
    have ei : (if false = true then !inV (V.int way) [V.int 2, .int 3] else inV (V.int way) [V.int 2, .int 3]) = decide (way = 2 ∨ way = 3) := by
      rw [if_neg (by decide)]
      unfold inV
      rw [Bool.eq_iff_iff]
      simp [eqV]
      omega
    rw [ei]
    refine ite2 (fun c => ?_) (fun c => ?_)
    rotate_left
    · have c2 : ¬ (way = 2 ∨ way = 3) := fun z => c (decide_eq_true z)
      exact ⟨r5, r', _, rfl, sX, f5, mono_mr.up tX k5, l5, no (by omega)⟩
    · have hc : way = 4 ∨ (n = 1 ∧ (way = 2 ∨ way = 3)) := .inr ⟨c1, of_decide_eq_true c⟩
      obtain ⟨vs5, h5, p5, er⟩ := key hc
      have rl5 := pr_len p5
      subst er
      refine ⟨_, rfl, sa, ns, 5, rfl, sX.seq hS, h63, by decide, by decide, fun c5 => ?_⟩
      refine ⟨_, rfl, r5, _, rfl, .inl (SqL.of (tX _ _ h5)), _, _, rfl, rfl, (show (0 : Int) < ((vs5.length : Nat) : Int) by omega), ?_⟩
      have j0 := Int.emod_nonneg c5 (show ((vs5.length : Nat) : Int) ≠ 0 by omega)
      have jn := Int.emod_lt_of_pos c5 (show (0 : Int) < ((vs5.length : Nat) : Int) by omega)
      generalize hj : c5 % ((vs5.length : Nat) : Int) = j at j0 jn
      replace hj : (fun i j : Int => V.int (i % j)) c5 ((vs5.length : Nat) : Int) = V.int j := by rw [← hj]
      rw [hj]
      clear hj
      have jl : j.toNat < R[p.toNat].length := by omega
      obtain ⟨_, hu0, t, _, _, rfl, ht, rfl, rfl⟩ := L2.Paired.at p5 (List.getElem?_eq_getElem jl)
      refine ⟨_, rfl, _, rfl, r5, vs5, j, .ref t, rfl, rfl, SqL.of (tX _ _ h5), at_int j0 hu0, t, _, _, _, rfl, rfl, SqT.of (tX _ _ ht), atI_nat (j := 0) rfl, _, rfl, (by show 2 ≤ sizeLine; decide), fun tn htn => ?_⟩
      have s9 := tX.trans (same_upd htn (.tup [V.int R[p.toNat][j.toNat].1, .int wr]))
      refine ⟨_, rfl, _, rfl, r5, vs5, j, j.toNat, rfl, rfl, s9 _ _ h5, (by unfold ixN; rw [if_pos j0, if_pos jn]), ?_⟩
      refine ⟨r5, _, _, rfl, (s5.trans s9).put f5 _, f5, mr_put (r := R[p.toNat].set j.toNat (R[p.toNat][j.toNat].1, wr)) (s9 _ _ h5) (pr_set ⟨tn, _, _, rfl, upd_same, rfl, rfl⟩ _ (paired_mono (mono_t2 mono_int mono_int) s9 p5)), ?_, fun _ _ => .inr (.inr ⟨(R[p.toNat][j.toNat].1, wr), ?_, hbad⟩)⟩
      · rw [List.length_set]; exact l5
      · exact List.mem_of_getElem? (i := j.toNat) (by rw [List.getElem?_set_self jl])
  clear k5 s5 f5 l5 d1 d2 d3 d4
  rintro σ' H6 ⟨r6, r', y6, rfl, s6, f6, k6, l6, bad⟩
  refine ⟨_, rfl, rfl, _, rfl, ?_⟩
  rw [de]
  refine ite2 (fun c => ?_) (fun c => ?_)
  · refine ⟨_, rfl, _, rfl, (by show 2 ≤ sizeLine; decide), fun p7 hp7 => ?_⟩
    exact q p7 wr _ R _ (s6.trans (same_upd hp7 _)) upd_same (mono_ms.up (s6.trans (same_upd hp7 _)) hR) (fun M => hbad (by have := M.st; omega)) I.few I.few2
  have c5 : ¬ way = 5 := fun z => c (decide_eq_true z)
  have b6 := bad (by omega) (by omega)
  have hp : p = ((p.toNat : Nat) : Int) := by omega
  refine ⟨_, rfl, _, rfl, _, rfl, p, rfl, a, _, rfl, SqL.of (s6 _ _ ha), fun p1 hp1 => ?_⟩
  have e1 : cutV us none (some p) = us.take p.toNat := by rw [hp]; exact cutV_up us p.toNat (by omega)
  have e2 : cutV us (some (p + 1)) none = us.drop (p.toNat + 1) := by
    have : p + 1 = ((p.toNat + 1 : Nat) : Int) := by omega
    rw [this]; exact cutV_fr us _ (by omega)
  rw [e1]
  have s7 := same_upd hp1 (.lst (us.take p.toNat))
  have k7 : upd H6 p1 (.lst (us.take p.toNat)) p1 = some (.lst (us.take p.toNat)) := upd_same
  generalize upd H6 p1 (.lst (us.take p.toNat)) = H7 at s7 k7 ⊢
  refine ⟨_, rfl, (by show 1 ≤ sizeLine; decide), fun p2 hp2 => ?_⟩
  have s8 := same_upd hp2 (.lst [V.ref r6])
  have k8 : upd H7 p2 (.lst [V.ref r6]) p2 = some (.lst [V.ref r6]) := upd_same
  have k78 := s8 _ _ k7
  generalize upd H7 p2 (.lst [V.ref r6]) = H8 at s8 k8 k78 ⊢
  have tl : (us.take p.toNat).length ≤ 6 := Nat.le_trans (List.length_take_le' _ _) (by omega)
  have dl : (us.drop (p.toNat + 1)).length ≤ 6 := by rw [List.length_drop]; omega
  refine ⟨p1, p2, _, _, rfl, rfl, k78, k8, Nat.le_trans (show _ ≤ 1000 by rw [List.length_singleton]; omega) (small (m := 1000) (Nat.le_refl _)), fun p3 hp3 => ?_⟩
  have s9 := same_upd hp3 (.lst (us.take p.toNat ++ [V.ref r6]))
  have k9 : upd H8 p3 (.lst (us.take p.toNat ++ [V.ref r6])) p3 = some (.lst (us.take p.toNat ++ [V.ref r6])) := upd_same
  generalize upd H8 p3 (.lst (us.take p.toNat ++ [V.ref r6])) = H9 at s9 k9 ⊢
  have s69 := s7.trans (s8.trans s9)
  refine ⟨_, rfl, _, rfl, _, _, rfl, rfl, p + 1, rfl, a, _, rfl, SqL.of (s69 _ _ (s6 _ _ ha)), fun p4 hp4 => ?_⟩
  rw [e2]
  refine ⟨p3, p4, _, _, rfl, rfl, same_upd hp4 _ _ _ k9, upd_same, Nat.le_trans (show _ ≤ 1000 by rw [List.length_append, List.length_singleton]; omega) (small (m := 1000) (Nat.le_refl _)), fun p5 hp5 => ?_⟩
  have s10 := (same_upd hp4 (.lst (us.drop (p.toNat + 1)))).trans (same_upd hp5 (.lst (us.take p.toNat ++ [V.ref r6] ++ us.drop (p.toNat + 1))))
  have k10 : upd (upd H9 p4 (.lst (us.drop (p.toNat + 1)))) p5 (.lst (us.take p.toNat ++ [V.ref r6] ++ us.drop (p.toNat + 1))) p5 = some (.lst (us.take p.toNat ++ [V.ref r6] ++ us.drop (p.toNat + 1))) := upd_same
  generalize upd (upd H9 p4 (.lst (us.drop (p.toNat + 1)))) p5 (.lst (us.take p.toNat ++ [V.ref r6] ++ us.drop (p.toNat + 1))) = G at s10 k10 ⊢
  refine ⟨(by show 2 ≤ sizeLine; decide), fun p6 hp6 => ?_⟩
  have sG := s69.trans (s10.trans (same_upd hp6 (.lst [V.int st, .ref p5])))
  obtain ⟨_, us', e, ha', prs⟩ := hR
  cases e
  rw [ha] at ha'
  injection ha' with ha'
  injection ha' with ha'
  subst ha'
  have prs' := paired_mono mono_mr (s6.trans sG) prs
  refine q p6 st _ (R.take p.toNat ++ [r'] ++ R.drop (p.toNat + 1)) _ (s6.trans sG) upd_same ⟨p5, _, rfl, same_upd hp6 _ _ _ k10, L2.Paired.app (L2.Paired.app (pr_take _ prs') (.cons (mono_mr.up sG k6) .nil)) (pr_drop _ prs')⟩ (bad_put I pl b6) ?_ fun r hr => ?_
  · rw [List.length_append, List.length_append, List.length_take, List.length_drop, List.length_singleton]; omega
  · rcases List.mem_append.mp hr with hr | hr
    · rcases List.mem_append.mp hr with hr | hr
      · exact I.few2 r (List.mem_of_mem_take hr)
      · rw [List.mem_singleton.mp hr]; omega
    · exact I.few2 r (List.mem_of_mem_drop hr)
def spAsks (K : PySem.W.Frag) : Sp := fun vs H Q _ => ∃ (sa : Addr) (ns : List Int) (m : Int), vs = [.ref sa, .int m] ∧ SqL K H sa (ns.map V.int) ∧ ns.length ≤ 63 ∧ 1 ≤ m ∧ m ≤ 3 ∧ ∀ (p : Addr) (ks : List Int) (H' : Hp), Same H H' → H' p = some (.lst (ks.map V.int)) → ks.length ≤ 8 → (∀ k ∈ ks, 0 ≤ k ∧ k < m) → Q (.ref p) H'
theorem ok_asks (F : DefAt K mg "_law_asks" s_law_asks ["_law_script", "_law_asks_here"]) (T : Txt mg) (D_law_at : Dn P w K mg base "_law_at" 1 ["_law_script", "_law_k"] (spAt K)) : Dn P w K mg base "_law_asks" 2 ["_law_script", "_law_asks_here"] (spAsks K) := by
  have sc := sc_law_asks
  refine F.ok sc (fun vs H Q E h => ?_) (fun f cdv A outer s H vs Q E hr h => ?_)
  · obtain ⟨_, _, _, rfl, _⟩ := h; rfl
  obtain ⟨sa, ns, m, rfl, hS, h63, m1, m3, q⟩ := h
  refine ⟨_, (pss_one (ps_ret (pe_lc (defScope s_law_asks) ["_law_script", "_law_asks_here"] ["_law_k", "_law_script", "_law_asks_here"] 1 [0, 1] (pi_range1 rfl T.b_range (pa_cons (pe_op op_mod (pe_dn D_law_at hr (pa_cons (pv 0) (pa_cons pe_int pa_nil))) pe_int) pa_nil)) (fun _ _ _ _ _ _ => (ptg_name (show List.Nodup (["_law_k", "_law_script", "_law_asks_here"] : List Str) by decide +kernel) rfl rfl)) (fun _ _ _ _ _ _ => pts_nil) (fun _ _ _ _ _ _ => (pe_op op_mod (pe_op op_fdiv (pe_dn D_law_at hr (pa_cons (pv 1) (pa_cons (pe_op op_add pe_int (pv 0)) pa_nil))) pe_int) (pv 2)))))), ?_⟩
  refine ⟨_, rfl, sa, ns, 6, rfl, hS, h63, by decide, by decide, fun c => ⟨_, _, rfl, rfl, (show (0 : Int) < 9 by decide), ?_⟩⟩
  have b0 := Int.emod_nonneg c (show (9 : Int) ≠ 0 by decide)
  have b9 := Int.emod_lt_of_pos c (show (0 : Int) < 9 by decide)
  refine ⟨_, rfl, by omega, by omega, comp_rangeD (lo := 0) (n := (c % 9).toNat) (fun i ys H3 => H3 = H ∧ ∃ ks : List Int, ys = ks.map V.int ∧ ks.length = i ∧ ∀ k ∈ ks, 0 ≤ k ∧ k < m) ⟨rfl, [], rfl, rfl, fun _ z => by cases z⟩ (small (m := 1000) (by omega)) (fun i ys H3 hi h => ?_) (fun i ys H3 hi h => ?_) (fun ys H3 h p hp => ?_)⟩
  · obtain ⟨_, ks, rfl, kl, _⟩ := h
    rw [List.length_map]; omega
  · obtain ⟨rfl, ks, rfl, kl, kg⟩ := h
    refine comp_yes ?_
    refine ⟨_, rfl, _, rfl, _, _, rfl, rfl, sa, ns, _, rfl, hS, h63, by omega, by omega, fun c5 => ⟨_, _, rfl, rfl, ⟨by decide, by decide⟩, _, rfl, _, _, rfl, rfl, (show (0 : Int) < m by omega), ?_⟩⟩
    refine ⟨rfl, ks ++ [c5 / 7 % m], by rw [List.map_append]; rfl, by rw [List.length_append, kl]; rfl, fun k hk => ?_⟩
    rcases List.mem_append.mp hk with h | h
    · exact kg k h
    · rw [List.mem_singleton.mp h]; exact ⟨Int.emod_nonneg _ (by omega), Int.emod_lt_of_pos _ (by omega)⟩
  · obtain ⟨rfl, ks, rfl, kl, kg⟩ := h
    exact q p ks _ (same_upd hp _) upd_same (by omega) kg
def spWrong (K : PySem.W.Frag) : Sp := fun vs H Q _ => ∃ (sa : Addr) (ns : List Int) (m : Int), vs = [.ref sa, .int m] ∧ SqL K H sa (ns.map V.int) ∧ ns.length ≤ 63 ∧ 1 ≤ m ∧ m ≤ 3 ∧ ∀ (z : Int) (H' : Hp), Same H H' → ¬ (0 ≤ z ∧ z < m) → Q (.int z) H'
theorem ok_wrong (F : DefAt K mg "_law_wrong_ask" s_law_wrong_ask ["_law_script", "_law_asks_here"]) (T : Txt mg) (D_law_at : Dn P w K mg base "_law_at" 1 ["_law_script", "_law_k"] (spAt K)) : Dn P w K mg base "_law_wrong_ask" 2 ["_law_script", "_law_asks_here"] (spWrong K) := by
  have sc := sc_law_wrong_ask
  refine F.ok sc (fun vs H Q E h => ?_) (fun f cdv A outer s H vs Q E hr h => ?_)
  · obtain ⟨_, _, _, rfl, _⟩ := h; rfl
  obtain ⟨sa, ns, m, rfl, hS, h63, m1, m3, q⟩ := h
  refine ⟨_, (pss_cons (ps_set (i := 2) sc.nd rfl (Or.inl rfl) (pe_op op_mod (pe_dn D_law_at hr (pa_cons (pv 0) (pa_cons pe_int pa_nil))) (pe_op op_pow pe_int pe_int)))
      (pss_one (ps_ret (pe_ix (ixL (K := K) rfl) (pe_lst (pa_cons (pe_un un_neg pe_int) (pa_cons (pv 1) (pa_cons (pe_op op_add (pv 1) (pv 2)) (pa_cons (pe_op op_sub (pe_un un_neg pe_int) (pv 2)) pa_nil))))) (pe_op op_mod (pe_dn D_law_at hr (pa_cons (pv 0) (pa_cons pe_int pa_nil))) pe_int) (fun _ _ => rfl))))), ?_⟩
  have big : (0 : Int) < 10 ^ (59 : Int).toNat := by decide +kernel
  refine ⟨_, rfl, sa, ns, 1, rfl, hS, h63, by decide, by decide, fun c1 => ?_⟩
  refine ⟨_, _, rfl, rfl, ⟨by decide, by decide, by decide⟩, _, _, rfl, rfl, big, ?_⟩
  have f0 : 0 ≤ c1 % 10 ^ (59 : Int).toNat := Int.emod_nonneg c1 (by omega)
  generalize hfar : c1 % 10 ^ (59 : Int).toNat = far at f0
  replace hfar : (fun i j : Int => V.int (i % j)) c1 (10 ^ (59 : Int).toNat) = V.int far := by rw [← hfar]
  rw [hfar]
  clear hfar
  refine ⟨_, rfl, _, rfl, _, rfl, _, rfl, _, _, rfl, rfl, _, rfl, _, rfl, _, _, rfl, rfl, (by show 4 ≤ sizeLine; decide), fun ol hol => ?_⟩
  have s1 := same_upd hol (.lst [V.int (-1), .int m, .int (m + far), .int (-1 - far)])
  have k1 : upd H ol (.lst [V.int (-1), .int m, .int (m + far), .int (-1 - far)]) ol = some (.lst [V.int (-1), .int m, .int (m + far), .int (-1 - far)]) := upd_same
  generalize upd H ol (.lst [V.int (-1), .int m, .int (m + far), .int (-1 - far)]) = H1 at s1 k1 ⊢
  refine ⟨_, rfl, sa, ns, 7, rfl, s1.seq hS, h63, by decide, by decide, fun c2 => ?_⟩
  obtain ⟨v, hv, hb⟩ : ∃ v : Int, atI [V.int (-1), .int m, .int (m + far), .int (-1 - far)] (c2 % 4) = some (.int v) ∧ ¬ (0 ≤ v ∧ v < m) := by
    have b : 0 ≤ c2 % 4 ∧ c2 % 4 < 4 := ⟨Int.emod_nonneg _ (by decide), Int.emod_lt_of_pos _ (by decide)⟩
    generalize c2 % 4 = j at b
    obtain rfl | rfl | rfl | rfl : j = 0 ∨ j = 1 ∨ j = 2 ∨ j = 3 := by omega
    · exact ⟨_, atI_nat (j := 0) rfl, by omega⟩
    · exact ⟨_, atI_nat (j := 1) rfl, by omega⟩
    · exact ⟨_, atI_nat (j := 2) rfl, by omega⟩
    · exact ⟨_, atI_nat (j := 3) rfl, by omega⟩
  exact ⟨_, _, rfl, rfl, (show (0 : Int) < 4 by decide), ol, _, _, .int v, rfl, rfl, SqL.of k1, hv, q v _ s1 hb⟩
def spWalk : Sp := fun vs H Q _ => ∃ (z : Int) (v : V) (R : List MRow) (la : Addr) (ks : List Int), vs = [.int z, v, .ref la] ∧ rMs H R v ∧ H la = some (.lst (ks.map V.int)) ∧ ks.length ≤ 60 ∧ MOk z R ∧ (∀ k ∈ ks, AskOk R k) ∧
  ∀ (p g : Addr) (H' : Hp), Same H H' → H' p = some (.lst [.ref g, .int (wlk R z ks).2]) → H' g = some (.lst ((wlk R z ks).1.map V.int)) → Q (.ref p) H'
theorem wlk_len {R : List MRow} {z : Int} : ∀ {ks : List Int}, (wlk R z ks).1.length = ks.length := fun {ks} => by
  have : ∀ (ks : List Int) (a : List Int × Int), (ks.foldl (wst R) a).1.length = a.1.length + ks.length := fun ks => by
    induction ks with
    | nil => intro a; rfl
    | cons k ks ih =>
      intro a
      show (ks.foldl (wst R) (wst R a k)).1.length = _
      rw [ih]
      unfold wst
      rw [List.length_append, List.length_cons, List.length_cons, List.length_nil]; omega
  exact (this ks ([], z)).trans (Nat.zero_add _)
theorem ok_walk (F : DefAt K mg "_law_walked" s_law_walked ["_law_start", "_law_rows_here", "_law_asked"]) (T : Txt mg) : Dn P w K mg base "_law_walked" 1 ["_law_start", "_law_rows_here", "_law_asked"] spWalk := by
  have sc := sc_law_walked
  refine F.ok sc (fun vs H Q E h => ?_) (fun f cdv A outer s H vs Q E hr h => ?_)
  · obtain ⟨_, _, _, _, _, rfl, _⟩ := h; rfl
  obtain ⟨z, v, R, la, ks, rfl, hR, hla, kl, M, good, q⟩ := h
  obtain ⟨a, us, rfl, ha, ul, hat⟩ := ms_parts hR
  refine ⟨_, (pss_cons (ps_set (i := 3) sc.nd rfl (Or.inl rfl) (pv 0))
      (pss_cons (ps_set (i := 4) sc.nd rfl (Or.inl rfl) (pe_lst pa_nil))
      (pss_cons (ps_for PassesOwn.never rfl (pi_list (pv 2)) (pg_name (i := 5) sc.nd rfl (Or.inl rfl))
      (pss_cons (ps_expr (pe_bm PySem.F.plainAttrs_list PySem.F.slot_list_append PySem.F.type_list_append mt_append (pv 4) (pa_cons (pe_ix (ixT (K := K) rfl) (pe_ix (ixL (K := K) rfl) (pe_ix (ixL (K := K) rfl) (pv 1) (pv 3) (fun _ _ => rfl)) (pv 5) (fun _ _ => rfl)) pe_int (fun _ _ => rfl)) pa_nil)))
      (pss_one (ps_set (i := 3) sc.nd rfl (Or.inl rfl) (pe_ix (ixT (K := K) rfl) (pe_ix (ixL (K := K) rfl) (pe_ix (ixL (K := K) rfl) (pv 1) (pv 3) (fun _ _ => rfl)) (pv 5) (fun _ _ => rfl)) pe_int (fun _ _ => rfl))))))
      (pss_one (ps_ret (pe_lst (pa_cons (pv 4) (pa_cons (pv 3) pa_nil)))))))), ?_⟩
  refine ⟨_, rfl, Nat.zero_le _, fun g hg => ?_⟩
  refine ⟨_, rfl, la, rfl, ⟨_, SqL.of (same_upd hg _ _ _ hla)⟩, for_list (K := K) (a := la) (xs := ks.map V.int) (fun i σ H2 => Same H H2 ∧ (∃ y : Option V, σ = [some (.int z), some (.ref a), some (.ref la), some (.int (wlk R z (ks.take i)).2), some (.ref g), y]) ∧ H2 g = some (.lst ((wlk R z (ks.take i)).1.map V.int))) ⟨same_upd hg _, ⟨_, rfl⟩, upd_same⟩ (fun i σ H2 _ h => SqL.of (h.1 _ _ hla)) (fun i x σ H2 hi h => ?_) (fun σ H2 h => ?_)⟩
  · obtain ⟨s2, ⟨y, rfl⟩, k2⟩ := h
    obtain ⟨k, hk, rfl⟩ := int_of_at hi
    have gk : ∀ k' ∈ ks.take i, AskOk R k' := fun k' h' => good k' (List.mem_of_mem_take h')
    have zo := wlk_ok M gk
    have ok := good k (List.mem_of_getElem? hk)
    obtain ⟨r, pp, hr', hp', es, _⟩ := stp_ok M zo ok
    obtain ⟨u, hu, hru⟩ := hat _ _ hr'
    obtain ⟨ar, ur, rfl, har, rl, hatr⟩ := mr_parts (mono_mr.up s2 hru)
    obtain ⟨t, ht', ht⟩ := hatr _ _ hp'
    have wl : (wlk R z (ks.take i)).1.length ≤ 60 := by rw [wlk_len]; exact Nat.le_trans (List.length_take_le' _ _) kl
    have nt : t ≠ g := fun e => by rw [e, k2] at ht; cases ht
    have nar : ar ≠ g := fun e => by
      obtain ⟨_, _, e2, har2, _, _⟩ := mr_parts hru
      cases e2
      rw [e, hg] at har2; cases har2
    have na : a ≠ g := fun e => by rw [e, hg] at ha; cases ha
    refine ⟨_, rfl, .inl ⟨rfl, _, SqL.of k2⟩, _, rfl, _, rfl, a, us, _, .ref ar, rfl, rfl, SqL.of (s2 _ _ ha), at_int zo.1 hu, _, rfl, ar, ur, k, .ref t, rfl, rfl, SqL.of har, at_int ok.1 ht', t, _, _, _, rfl, rfl, SqT.of ht, atI_nat (j := 0) rfl, g, _, _, rfl, rfl, k2, smlt (m := 1000) (by rw [List.length_map]; omega), ?_⟩
    refine ⟨_, rfl, _, rfl, a, us, _, .ref ar, rfl, rfl, SqL.of (by rw [upd_ne na]; exact s2 _ _ ha), at_int zo.1 hu, _, rfl, ar, ur, k, .ref t, rfl, rfl, SqL.of (by rw [upd_ne nar]; exact har), at_int ok.1 ht', t, _, _, _, rfl, rfl, SqT.of (by rw [upd_ne nt]; exact ht), atI_nat (j := 1) rfl, ?_⟩
    have et : ks.take (i + 1) = ks.take i ++ [k] := by rw [List.take_succ, hk]; rfl
    rw [et, wlk_snoc]
    unfold wst
    rw [es]
    refine ⟨s2.put hg _, ⟨_, rfl⟩, ?_⟩
    rw [upd_same, List.map_append]; rfl
  · obtain ⟨s2, ⟨y, rfl⟩, k2⟩ := h
    rw [List.length_map, List.take_length] at k2 ⊢
    refine ⟨_, rfl, _, rfl, (by show 2 ≤ sizeLine; decide), fun p hp => ?_⟩
    exact q p g _ (s2.trans (same_upd hp _)) upd_same (same_upd hp _ _ _ k2)
theorem ints_rel {H : Hp} {r : Addr} {L : List Int} (h : H r = some (.lst (L.map V.int))) : rLst rInt H L (.ref r) := rLst_ints.mpr ⟨r, rfl, h⟩
def spRuns (C : Addr) : Sp := fun vs H Q _ => ∃ (v u : V) (z c wr : Int) (R : List MRow) (la : Addr) (ks : List Int), vs = [v, u, .ref la, .int c, .int wr] ∧ rT2 rInt rMs H (z, R) v ∧ rMs H R u ∧ H la = some (.lst (ks.map V.int)) ∧ R.length ≤ 60 ∧ (∀ r ∈ R, r.length ≤ 60) ∧ ks.length ≤ 8 ∧ MOk z R ∧ (∀ k ∈ ks, AskOk R k) ∧ 0 ≤ c ∧ c ≤ ks.length ∧ ¬ AskOk R wr ∧ ∀ H', Q (.bl true) H'
theorem ok_runs {C : Addr} (F : DefAt K mg "_law_runs" s_law_runs ["_law_machine", "_law_rows_here", "_law_asked", "_law_cut", "_law_wrong"]) (T : Txt mg) (CL_Runner : ClsAt K mg "Runner" C RunFs) (D_Runner___init__ : DnK P w K mg base C 1 ["self", "machine"] (spInitR C)) (D_Runner_step : DnMX P w K mg base C "step" 3 ["self", "ask"] (spStep C K))
    (D_law_no_step : Dn P w K mg base "_law_no_step" 4 ["_law_runner", "_law_ask"] (spNoS C)) (D_law_walked : Dn P w K mg base "_law_walked" 1 ["_law_start", "_law_rows_here", "_law_asked"] spWalk) : Dn P w K mg base "_law_runs" 6 ["_law_machine", "_law_rows_here", "_law_asked", "_law_cut", "_law_wrong"] (spRuns C) := by
  have sc := sc_law_runs
  refine F.ok sc (fun vs H Q E h => ?_) (fun f cdv A outer s H vs Q E hr h => ?_)
  · obtain ⟨_, _, _, _, _, _, _, _, rfl, _⟩ := h; rfl
  obtain ⟨v, u, z, c, wr, R, la, ks, rfl, hm, hu, hla, few, few2, kl, M, good, c0, cl, bad, q⟩ := h
  obtain ⟨n, rfl⟩ := Int.eq_ofNat_of_zero_le c0
  have cn : n ≤ ks.length := by omega
  have g1 : ∀ k ∈ ks.take n, AskOk R k := fun k h => good k (List.mem_of_mem_take h)
  have g2 : ∀ k ∈ ks.drop n, AskOk R k := fun k h => good k (List.mem_of_mem_drop h)
  have l1 : (ks.take n).length ≤ 8 := Nat.le_trans (List.length_take_le' _ _) kl
  have l2 : (ks.drop n).length ≤ 8 := by rw [List.length_drop]; omega
  refine ⟨_, (pss_cons (ps_set (i := 5) sc.nd rfl (Or.inr rfl) (pe_dnK CL_Runner D_Runner___init__ hr (pa_cons (pv 0) pa_nil)))
      (pss_cons (ps_lc (i := 6) (defScope s_law_runs) ["_law_machine", "_law_rows_here", "_law_asked", "_law_cut", "_law_wrong", "_law_runner", "_law_answers", "_law_ahead", "_law_whole"] ["_law_ask", "_law_runner"] 1 [5] sc.nd rfl rfl (pi_list (pe_slice (slL (K := K) rfl) (pv 2) po_none (po_some (pv 3)))) (fun _ _ _ _ _ _ => (ptg_name (show List.Nodup (["_law_ask", "_law_runner"] : List Str) by decide +kernel) rfl rfl)) (fun _ _ _ _ _ _ => pts_nil) (fun _ _ _ _ _ _ => (pe_dnMX passX0 CL_Runner.cl D_Runner_step hr (pv 1) (pa_cons (pv 0) pa_nil))))
      (pss_cons (ps_set (i := 7) sc.nd rfl (Or.inl rfl) (pe_dn D_law_walked hr (pa_cons (pe_ix (ixT (K := K) rfl) (pv 0) pe_int (fun _ _ => rfl)) (pa_cons (pv 1) (pa_cons (pe_slice (slL (K := K) rfl) (pv 2) po_none (po_some (pv 3))) pa_nil)))))
      (pss_cons (ps_if (PW.pt (pw_or (pt_cmpR (op_neR (rcok_lst eqok_int) (hu_n hr 1)) (pv 6) (pe_ix (ixL (K := K) rfl) (pv 7) pe_int (fun _ _ => rfl)) (nomark _)) (pw_or1 (pt_cmpR op_ne (pe_fldK (K := K) rfl (pv 5) rfl) (pe_ix (ixL (K := K) rfl) (pv 7) pe_int (fun _ _ => rfl)) (nomark _)))))
      (pss_one (ps_ret pe_bl))
      pss_nil)
      (pss_cons (ps_if (PW.pt (pw_or (pt_not (pt_val (pe_dn D_law_no_step hr (pa_cons (pv 5) (pa_cons (pv 4) pa_nil))))) (pw_or1 (pt_cmpR op_ne (pe_fldK (K := K) rfl (pv 5) rfl) (pe_ix (ixL (K := K) rfl) (pv 7) pe_int (fun _ _ => rfl)) (nomark _)))))
      (pss_one (ps_ret pe_bl))
      pss_nil)
      (pss_cons (ps_set (i := 6) sc.nd rfl (Or.inl rfl) (pe_op op_cat (pv 6) (pe_lc (defScope s_law_runs) ["_law_machine", "_law_rows_here", "_law_asked", "_law_cut", "_law_wrong", "_law_runner", "_law_answers", "_law_ahead", "_law_whole"] ["_law_ask", "_law_runner"] 1 [5] (pi_list (pe_slice (slL (K := K) rfl) (pv 2) (po_some (pv 3)) po_none)) (fun _ _ _ _ _ _ => (ptg_name (show List.Nodup (["_law_ask", "_law_runner"] : List Str) by decide +kernel) rfl rfl)) (fun _ _ _ _ _ _ => pts_nil) (fun _ _ _ _ _ _ => (pe_dnMX passX0 CL_Runner.cl D_Runner_step hr (pv 1) (pa_cons (pv 0) pa_nil))))))
      (pss_cons (ps_set (i := 8) sc.nd rfl (Or.inl rfl) (pe_dn D_law_walked hr (pa_cons (pe_ix (ixT (K := K) rfl) (pv 0) pe_int (fun _ _ => rfl)) (pa_cons (pv 1) (pa_cons (pv 2) pa_nil)))))
      (pss_one (ps_ret (pe_and (pe_cmpR (op_eqR (rcok_lst eqok_int) (hu_n hr 1)) (pv 6) (pe_ix (ixL (K := K) rfl) (pv 8) pe_int (fun _ _ => rfl)) (nomark _)) (pe_one (pe_cmpR op_eq (pe_fldK (K := K) rfl (pv 5) rfl) (pe_ix (ixL (K := K) rfl) (pv 8) pe_int (fun _ _ => rfl)) (nomark _))))))))))))), ?_⟩
  refine ⟨_, rfl, fun x dx hx hdx ne => made hx hdx hm few few2 fun l H1 s1 hl hx1 => ?_⟩
  obtain ⟨tm, _, vr, rfl, htm, rfl, hvr⟩ := hm
  have none_x : ∀ {b : Addr} {o : HO}, H b = some o → b ≠ x := fun e z => by rw [z, hx] at e; cases e
  refine ⟨_, rfl, _, rfl, (n : Int), rfl, la, _, rfl, SqL.of (s1 _ _ hla), fun p1 hp1 => ?_⟩
  rw [cut_upto ks n cn]
  have np1 : p1 ≠ x := fun e => by rw [e, hx1] at hp1; cases hp1
  have sP := same_upd hp1 (.lst ((ks.take n).map V.int))
  have kP : upd H1 p1 (.lst ((ks.take n).map V.int)) p1 = some (.lst ((ks.take n).map V.int)) := upd_same
  have hxP := sP _ _ hx1
  have hlP := mono_ms.up sP hl
  replace sP := s1.trans sP
  generalize upd H1 p1 (.lst ((ks.take n).map V.int)) = G1 at sP kP hxP hlP ⊢
  clear hx1 hl s1
  refine ⟨p1, rfl, ⟨_, SqL.of kP⟩, comp_listD (K := K) (a := p1) (xs := (ks.take n).map V.int) (fun i ys H3 => H3 = upd G1 x (.ins C dx (flR (wlk R z ((ks.take n).take i)).2 l)) ∧ ys = (wlk R z ((ks.take n).take i)).1.map V.int ∧ ys.length = i) ⟨(upd_id hxP).symm, rfl, rfl⟩ (small (m := 1000) (by rw [List.length_map]; omega)) (fun i ys H3 hi h => ?_) (fun i v ys H3 hi h => ?_) (fun ys H3 h lb hlb => ?_)⟩
  · obtain ⟨rfl, _, rfl⟩ := h
    exact ⟨SqL.of (by rw [upd_ne np1]; exact kP), Nat.le_refl _⟩
  · obtain ⟨rfl, rfl, yl⟩ := h
    obtain ⟨k, hk, rfl⟩ := int_of_at hi
    have g : ∀ k' ∈ (ks.take n).take i, AskOk R k' := fun k' h' => g1 k' (List.mem_of_mem_take h')
    have zo := wlk_ok M g
    have zl : (wlk R z ((ks.take n).take i)).2.toNat < R.length := by omega
    have rl := (M.go _ (List.getElem_mem zl)).len
    have ok := g1 k (List.mem_of_getElem? hk)
    have okr : 0 ≤ k ∧ k < ((R[(wlk R z ((ks.take n).take i)).2.toNat].length : Nat) : Int) := ⟨ok.1, by have := ok.2; unfold wid at this; omega⟩
    refine comp_yes ?_
    refine ⟨_, rfl, x, dx, _, rfl, upd_same, flR_no (by decide +kernel), _, rfl, x, dx, l, _, k, R, R[(wlk R z ((ks.take n).take i)).2.toNat], rfl, upd_same, ms_lt (LT.ins hxP) hlP, zo.1, List.getElem?_eq_getElem zl, fun p k0 hp => ?_, fun no => absurd okr no⟩
    rw [upd_two]
    have es : stp R (wlk R z ((ks.take n).take i)).2 k = p := by
      obtain ⟨r', p', e1, e2, e3, _⟩ := stp_ok M zo ok
      rw [List.getElem?_eq_getElem zl] at e1
      injection e1 with e1
      subst e1
      rw [hp] at e2
      injection e2 with e2
      rw [e3, ← e2]
    have et : (ks.take n).take (i + 1) = (ks.take n).take i ++ [k] := by rw [List.take_succ, hk]; rfl
    rw [et, wlk_snoc]
    unfold wst
    rw [es]
    exact ⟨rfl, by rw [List.map_append]; rfl, by rw [List.length_append, yl]; rfl⟩
  obtain ⟨rfl, rfl, yl⟩ := h
  rw [List.length_map, List.take_length] at hlb ⊢
  have zo := wlk_ok M g1
  have nlb : lb ≠ x := fun e => by rw [e, upd_same] at hlb; cases hlb
  have s2 := ((sP.put hx (.ins C dx (flR (wlk R z (ks.take n)).2 l)))).trans (same_upd hlb (.lst ((wlk R z (ks.take n)).1.map V.int)))
  have k2 : upd (upd G1 x (.ins C dx (flR (wlk R z (ks.take n)).2 l))) lb (.lst ((wlk R z (ks.take n)).1.map V.int)) lb = some (.lst ((wlk R z (ks.take n)).1.map V.int)) := upd_same
  have x2 : upd (upd G1 x (.ins C dx (flR (wlk R z (ks.take n)).2 l))) lb (.lst ((wlk R z (ks.take n)).1.map V.int)) x = some (.ins C dx (flR (wlk R z (ks.take n)).2 l)) := by rw [upd_ne nlb.symm, upd_same]
  have hl2 : rMs (upd (upd G1 x (.ins C dx (flR (wlk R z (ks.take n)).2 l))) lb (.lst ((wlk R z (ks.take n)).1.map V.int))) R (.ref l) := mono_ms.up (same_upd hlb _) (ms_lt (LT.ins hxP) hlP)
  generalize upd (upd G1 x (.ins C dx (flR (wlk R z (ks.take n)).2 l))) lb (.lst ((wlk R z (ks.take n)).1.map V.int)) = H2 at s2 k2 x2 hl2 ⊢
  clear sP kP hxP hlP hlb hp1
  generalize hw : wlk R z (ks.take n) = W at zo k2 x2 ⊢
  refine ⟨_, rfl, tm, _, _, _, rfl, rfl, SqT.of (s2 _ _ htm), atI_nat (j := 0) rfl, _, rfl, _, rfl, _, rfl, (n : Int), rfl, la, _, rfl, SqL.of (s2 _ _ hla), fun p2 hp2 => ?_⟩
  rw [cut_upto ks n cn]
  have s3 := same_upd hp2 (.lst ((ks.take n).map V.int))
  have k3 : upd H2 p2 (.lst ((ks.take n).map V.int)) p2 = some (.lst ((ks.take n).map V.int)) := upd_same
  generalize upd H2 p2 (.lst ((ks.take n).map V.int)) = H3 at s3 k3 ⊢
  refine ⟨z, u, R, p2, ks.take n, rfl, mono_ms.up (s2.trans s3) hu, k3, by omega, M, g1, fun pa ga H4 s4 h4 k4 => ?_⟩
  rw [hw] at h4 k4
  have s24 := s3.trans s4
  refine ⟨_, rfl, _, rfl, pa, _, _, _, rfl, rfl, SqL.of h4, atI_nat (j := 0) rfl, W.1, ints_rel (s24 _ _ k2), ints_rel k4, _, rfl, iteF ?_⟩
  refine ⟨_, rfl, x, C, dx, _, _, rfl, s24 _ _ x2, CL_Runner.cl, CL_Runner.na _ (by decide +kernel), flR_s, _, rfl, pa, _, _, _, rfl, rfl, SqL.of h4, atI_nat (j := 1) rfl, rfl, _, rfl, ?_⟩
  refine ite2 (fun y => by simp at y) (fun _ => ?_)
  have zl : W.2.toNat < R.length := by omega
  have rl := (M.go _ (List.getElem_mem zl)).len
  refine ⟨_, rfl, _, rfl, x, dx, l, W.2, wr, R, R[W.2.toNat], rfl, s24 _ _ x2, mono_ms.up s24 hl2, zo.1, List.getElem?_eq_getElem zl, fun y => bad ⟨y.1, by unfold wid; have := y.2; omega⟩, fun H5 s5 => ⟨_, rfl, iteF ?_⟩⟩
  have x5 := s5 _ _ (s24 _ _ x2)
  refine ⟨_, rfl, x, C, dx, _, _, rfl, x5, CL_Runner.cl, CL_Runner.na _ (by decide +kernel), flR_s, _, rfl, pa, _, _, _, rfl, rfl, SqL.of (s5 _ _ h4), atI_nat (j := 1) rfl, rfl, _, rfl, ?_⟩
  refine ite2 (fun y => by simp at y) (fun _ => ?_)
  have k5 := s5 _ _ (s24 _ _ k2)
  have hl5 := mono_ms.up (s24.trans s5) hl2
  replace s5 := s2.trans (s24.trans s5)
  clear s2 s24 k2 x2 hl2 s3 s4 k3 k4 h4 hp2
  have M2 : MOk W.2 R := ⟨zo, M.go⟩
  refine ⟨_, rfl, _, rfl, _, rfl, (n : Int), rfl, la, _, rfl, SqL.of (s5 _ _ hla), fun p3 hp3 => ?_⟩
  rw [cut_from ks n cn]
  have np3 : p3 ≠ x := fun e => by rw [e, x5] at hp3; cases hp3
  have s6 := same_upd hp3 (.lst ((ks.drop n).map V.int))
  have k6 : upd H5 p3 (.lst ((ks.drop n).map V.int)) p3 = some (.lst ((ks.drop n).map V.int)) := upd_same
  have x6 := s6 _ _ x5
  have hl6 := mono_ms.up s6 hl5
  have kb6 := s6 _ _ k5
  replace s6 := s5.trans s6
  generalize upd H5 p3 (.lst ((ks.drop n).map V.int)) = G5 at s6 k6 x6 hl6 kb6 ⊢
  clear s5 x5 k5 hl5
  refine ⟨p3, rfl, ⟨_, SqL.of k6⟩, comp_listD (K := K) (a := p3) (xs := (ks.drop n).map V.int) (fun i ys H3 => H3 = upd G5 x (.ins C dx (flR (wlk R W.2 ((ks.drop n).take i)).2 l)) ∧ ys = (wlk R W.2 ((ks.drop n).take i)).1.map V.int ∧ ys.length = i) ⟨(upd_id x6).symm, rfl, rfl⟩ (small (m := 1000) (by rw [List.length_map]; omega)) (fun i ys H3 hi h => ?_) (fun i v ys H3 hi h => ?_) (fun ys H3 h lc hlc => ?_)⟩
  · obtain ⟨rfl, _, rfl⟩ := h
    exact ⟨SqL.of (by rw [upd_ne np3]; exact k6), Nat.le_refl _⟩
  · obtain ⟨rfl, rfl, yl⟩ := h
    obtain ⟨k, hk, rfl⟩ := int_of_at hi
    have g : ∀ k' ∈ (ks.drop n).take i, AskOk R k' := fun k' h' => g2 k' (List.mem_of_mem_take h')
    have zo := wlk_ok M2 g
    have zl : (wlk R W.2 ((ks.drop n).take i)).2.toNat < R.length := by omega
    have rl := (M.go _ (List.getElem_mem zl)).len
    have ok := g2 k (List.mem_of_getElem? hk)
    have okr : 0 ≤ k ∧ k < ((R[(wlk R W.2 ((ks.drop n).take i)).2.toNat].length : Nat) : Int) := ⟨ok.1, by have := ok.2; unfold wid at this; omega⟩
    refine comp_yes ?_
    refine ⟨_, rfl, x, dx, _, rfl, upd_same, flR_no (by decide +kernel), _, rfl, x, dx, l, _, k, R, R[(wlk R W.2 ((ks.drop n).take i)).2.toNat], rfl, upd_same, ms_lt (LT.ins x6) hl6, zo.1, List.getElem?_eq_getElem zl, fun p k0 hp => ?_, fun no => absurd okr no⟩
    rw [upd_two]
    have es : stp R (wlk R W.2 ((ks.drop n).take i)).2 k = p := by
      obtain ⟨r', p', e1, e2, e3, _⟩ := stp_ok M zo ok
      rw [List.getElem?_eq_getElem zl] at e1
      injection e1 with e1
      subst e1
      rw [hp] at e2
      injection e2 with e2
      rw [e3, ← e2]
    have et : (ks.drop n).take (i + 1) = (ks.drop n).take i ++ [k] := by rw [List.take_succ, hk]; rfl
    rw [et, wlk_snoc]
    unfold wst
    rw [es]
    exact ⟨rfl, by rw [List.map_append]; rfl, by rw [List.length_append, yl]; rfl⟩
  obtain ⟨rfl, rfl, yl⟩ := h
  rw [List.length_map, List.take_length] at hlc ⊢
  have nlc : lc ≠ x := fun e => by rw [e, upd_same] at hlc; cases hlc
  have kb7 : upd G5 x (.ins C dx (flR (wlk R W.2 (ks.drop n)).2 l)) lb = some (.lst (W.1.map V.int)) := by rw [upd_ne nlb]; exact kb6
  have s7 := (s6.put hx (.ins C dx (flR (wlk R W.2 (ks.drop n)).2 l))).trans (same_upd hlc (.lst ((wlk R W.2 (ks.drop n)).1.map V.int)))
  have x7 : upd (upd G5 x (.ins C dx (flR (wlk R W.2 (ks.drop n)).2 l))) lc (.lst ((wlk R W.2 (ks.drop n)).1.map V.int)) x = some (.ins C dx (flR (wlk R W.2 (ks.drop n)).2 l)) := by rw [upd_ne nlc.symm, upd_same]
  have kc7 : upd (upd G5 x (.ins C dx (flR (wlk R W.2 (ks.drop n)).2 l))) lc (.lst ((wlk R W.2 (ks.drop n)).1.map V.int)) lc = some (.lst ((wlk R W.2 (ks.drop n)).1.map V.int)) := upd_same
  replace kb7 := same_upd hlc (.lst ((wlk R W.2 (ks.drop n)).1.map V.int)) _ _ kb7
  generalize upd (upd G5 x (.ins C dx (flR (wlk R W.2 (ks.drop n)).2 l))) lc (.lst ((wlk R W.2 (ks.drop n)).1.map V.int)) = H7 at s7 x7 kb7 kc7 ⊢
  have wl1 : W.1.length ≤ 8 := by rw [← hw, wlk_len]; exact l1
  have wl2 : (wlk R W.2 (ks.drop n)).1.length ≤ 8 := by rw [wlk_len]; exact l2
  refine ⟨lb, lc, _, _, rfl, rfl, kb7, kc7, Nat.le_trans (show _ ≤ 1000 by rw [List.length_map, List.length_map]; omega) (small (m := 1000) (Nat.le_refl _)), fun p8 hp8 => ?_⟩
  have app := wlk_app (R := R) (z := z) (xs := ks.take n) (ys := ks.drop n)
  rw [List.take_append_drop, hw] at app
  rw [← List.map_append]
  have s8 := same_upd hp8 (.lst ((W.1 ++ (wlk R W.2 (ks.drop n)).1).map V.int))
  have k8 : upd H7 p8 (.lst ((W.1 ++ (wlk R W.2 (ks.drop n)).1).map V.int)) p8 = some (.lst ((wlk R z ks).1.map V.int)) := by rw [upd_same, app]
  have x8 : upd H7 p8 (.lst ((W.1 ++ (wlk R W.2 (ks.drop n)).1).map V.int)) x = some (.ins C dx (flR (wlk R z ks).2 l)) := by rw [s8 _ _ x7, app]
  replace s8 := s7.trans s8
  generalize upd H7 p8 (.lst ((W.1 ++ (wlk R W.2 (ks.drop n)).1).map V.int)) = H8 at s8 k8 x8 ⊢
  refine ⟨_, rfl, tm, _, _, _, rfl, rfl, SqT.of (s8 _ _ htm), atI_nat (j := 0) rfl, _, rfl, _, rfl, z, u, R, la, ks, rfl, mono_ms.up s8 hu, s8 _ _ hla, by omega, M, good, fun pb gb H9 s9 h9 k9 => ?_⟩
  refine ⟨_, rfl, _, rfl, pb, _, _, _, rfl, rfl, SqL.of h9, atI_nat (j := 0) rfl, (wlk R z ks).1, ints_rel (s9 _ _ k8), ints_rel k9, _, rfl, iteT ?_⟩
  refine ⟨_, rfl, x, C, dx, _, _, rfl, s9 _ _ x8, CL_Runner.cl, CL_Runner.na _ (by decide +kernel), flR_s, _, rfl, pb, _, _, _, rfl, rfl, SqL.of h9, atI_nat (j := 1) rfl, rfl, ?_⟩
  rw [decide_eq_true rfl]
  exact q H9
def spLaw (K : PySem.W.Frag) : Sp := fun vs H Q _ => ∃ (a : Addr) (ns : List Int), vs = [.ref a] ∧ SqL K H a (ns.map V.int) ∧ ns.length ≤ 63 ∧ ∀ H', Q (.bl true) H'
theorem ok_law {C f : Addr} {fd : FuncData} (F : Fun K "law" "law" s_law f fd) (T : Txt mg) (D_machine_of : DnX P w K mg base "machine_of" 5 ["start", "rows"] (spMO K)) (D_told : DnX P w K mg base "told" 4 ["machine", "asks"] (spTold K)) (D_law_at : Dn P w K mg base "_law_at" 1 ["_law_script", "_law_k"] (spAt K)) (D_law_rows : Dn P w K mg base "_law_rows" 2 ["_law_script", "_law_states", "_law_asks_here"] (spRowsL K))
    (D_law_no_machine : Dn P w K mg base "_law_no_machine" 6 ["_law_start", "_law_rows_here"] spNoM) (D_law_no_ask : Dn P w K mg base "_law_no_ask" 6 ["_law_machine", "_law_asked"] spNoA) (D_law_spoiled : Dn P w K mg base "_law_spoiled" 2 ["_law_script", "_law_start", "_law_rows_here"] (spSp K)) (D_law_asks : Dn P w K mg base "_law_asks" 2 ["_law_script", "_law_asks_here"] (spAsks K)) (D_law_wrong_ask : Dn P w K mg base "_law_wrong_ask" 2 ["_law_script", "_law_asks_here"] (spWrong K))
    (D_law_walked : Dn P w K mg base "_law_walked" 1 ["_law_start", "_law_rows_here", "_law_asked"] spWalk) (D_law_runs : Dn P w K mg base "_law_runs" 6 ["_law_machine", "_law_rows_here", "_law_asked", "_law_cut", "_law_wrong"] (spRuns C)) : FnOk P w K mg base CX0 7 f fd ["_law_script"] (spLaw K) := by
  have sc := sc_law
  refine F.ok sc (fun vs H Q E h => ?_) (fun cdv A outer s H vs Q E hr h => ?_)
  · obtain ⟨_, _, rfl, _⟩ := h; rfl
  obtain ⟨sa, ns, rfl, hS, h63, q⟩ := h
  refine ⟨_, (pss_cons (ps_set (i := 1) sc.nd rfl (Or.inl rfl) (pe_op op_add pe_int (pe_op op_mod (pe_dn D_law_at hr (pa_cons (pv 0) (pa_cons pe_int pa_nil))) pe_int)))
      (pss_cons (ps_set (i := 2) sc.nd rfl (Or.inl rfl) (pe_op op_add pe_int (pe_op op_mod (pe_op op_fdiv (pe_dn D_law_at hr (pa_cons (pv 0) (pa_cons pe_int pa_nil))) pe_int) pe_int)))
      (pss_cons (ps_set (i := 3) sc.nd rfl (Or.inl rfl) (pe_dn D_law_rows hr (pa_cons (pv 0) (pa_cons (pv 1) (pa_cons (pv 2) pa_nil)))))
      (pss_cons (ps_set (i := 4) sc.nd rfl (Or.inl rfl) (pe_op op_mod (pe_op op_fdiv (pe_dn D_law_at hr (pa_cons (pv 0) (pa_cons pe_int pa_nil))) pe_int) (pv 1)))
      (pss_cons (ps_asg (pe_dn D_law_spoiled hr (pa_cons (pv 0) (pa_cons (pv 4) (pa_cons (pv 3) pa_nil)))) (pg_lst rfl (pgs_cons (pg_name (i := 5) sc.nd rfl (Or.inl rfl)) (pgs_cons (pg_name (i := 6) sc.nd rfl (Or.inl rfl)) pgs_nil))))
      (pss_cons (ps_lc (i := 7) (defScope s_law) ["_law_script", "_law_states", "_law_asks_here", "_law_rows_here", "_law_start", "_law_first", "_law_spoiled_here", "_law_handed", "_law_machine", "_law_asked", "_law_cut", "_law_wrong", "_law_given"] ["_law_row"] 1 [] sc.nd rfl rfl (pi_list (pv 6)) (fun _ _ _ _ _ _ => (ptg_name (show List.Nodup (["_law_row"] : List Str) by decide +kernel) rfl rfl)) (fun _ _ _ _ _ _ => pts_nil) (fun _ _ _ _ _ _ => (pe_callTy (clList (K := K) rfl) rfl T.b_list PyProof.Rows.boot_list (pa_cons (pv 0) pa_nil))))
      (pss_cons (ps_if (PW.pt (pw_or (pt_not (pt_val (pe_dn D_law_no_machine hr (pa_cons (pv 5) (pa_cons (pv 7) pa_nil))))) (pw_or1 (pt_cmpR (op_neR (rcok_lst (eqok_lst (eqok_t2 eqok_int eqok_int))) (hu_n hr 3)) (pv 7) (pv 6) (nomark _)))))
      (pss_one (ps_ret pe_bl))
      pss_nil)
      (pss_cons (ps_set (i := 8) sc.nd rfl (Or.inl rfl) (pe_dnX passX0 D_machine_of hr (pa_cons (pv 4) (pa_cons (pe_lc (defScope s_law) ["_law_script", "_law_states", "_law_asks_here", "_law_rows_here", "_law_start", "_law_first", "_law_spoiled_here", "_law_handed", "_law_machine", "_law_asked", "_law_cut", "_law_wrong", "_law_given"] ["_law_row"] 1 [] (pi_list (pv 3)) (fun _ _ _ _ _ _ => (ptg_name (show List.Nodup (["_law_row"] : List Str) by decide +kernel) rfl rfl)) (fun _ _ _ _ _ _ => pts_nil) (fun _ _ _ _ _ _ => (pe_callTy (clList (K := K) rfl) rfl T.b_list PyProof.Rows.boot_list (pa_cons (pv 0) pa_nil)))) pa_nil))))
      (pss_cons (ps_if (PW.pt (pw_or (pt_not (pt_val (pe_callB (clIsi (K := K) rfl (T := "tuple")) rfl T.b_isinstance PyProof.Rows.boot_isinstance (pa_cons (pv 8) (pa_cons (pe_bltn (v := .ty "tuple") rfl T.b_tuple PyProof.Rows.boot_tuple rfl) pa_nil))))) (pw_or1 (pt_cmpR (op_neR (rcok_t2 (EqOk.up eqok_int (by decide : 0 ≤ 3)) (eqok_lst (eqok_lst (eqok_t2 eqok_int eqok_int)))) (hu_n hr 4)) (pv 8) (pe_tup (pa_cons (pv 4) (pa_cons (pv 3) pa_nil))) (nomark _)))))
      (pss_one (ps_ret pe_bl))
      pss_nil)
      (pss_cons (ps_set (i := 9) sc.nd rfl (Or.inl rfl) (pe_dn D_law_asks hr (pa_cons (pv 0) (pa_cons (pv 2) pa_nil))))
      (pss_cons (ps_set (i := 10) sc.nd rfl (Or.inl rfl) (pe_op op_mod (pe_op op_fdiv (pe_dn D_law_at hr (pa_cons (pv 0) (pa_cons pe_int pa_nil))) pe_int) (pe_op op_add (pe_callB (clLen (K := K) rfl) rfl T.b_len PySem.boot_len (pa_cons (pv 9) pa_nil)) pe_int)))
      (pss_cons (ps_set (i := 11) sc.nd rfl (Or.inl rfl) (pe_dn D_law_wrong_ask hr (pa_cons (pv 0) (pa_cons (pv 2) pa_nil))))
      (pss_cons (ps_set (i := 12) sc.nd rfl (Or.inl rfl) (pe_op op_cat (pe_op op_cat (pe_slice (slL (K := K) rfl) (pv 9) po_none (po_some (pv 10))) (pe_lst (pa_cons (pv 11) pa_nil))) (pe_slice (slL (K := K) rfl) (pv 9) (po_some (pv 10)) po_none)))
      (pss_cons (ps_if (PW.pt (pw_or (pt_not (pt_val (pe_dn D_law_no_ask hr (pa_cons (pv 8) (pa_cons (pe_callTy (clList (K := K) rfl) rfl T.b_list PyProof.Rows.boot_list (pa_cons (pv 12) pa_nil)) pa_nil))))) (pw_or1 (pt_cmpR (op_neR (rcok_t2 (EqOk.up eqok_int (by decide : 0 ≤ 3)) (eqok_lst (eqok_lst (eqok_t2 eqok_int eqok_int)))) (hu_n hr 4)) (pv 8) (pe_tup (pa_cons (pv 4) (pa_cons (pv 3) pa_nil))) (nomark _)))))
      (pss_one (ps_ret pe_bl))
      pss_nil)
      (pss_cons (ps_if (pt_cmpR (op_neR (rcok_lst eqok_int) (hu_n hr 1)) (pe_dnX passX0 D_told hr (pa_cons (pv 8) (pa_cons (pe_callTy (clList (K := K) rfl) rfl T.b_list PyProof.Rows.boot_list (pa_cons (pv 9) pa_nil)) pa_nil))) (pe_ix (ixL (K := K) rfl) (pe_dn D_law_walked hr (pa_cons (pv 4) (pa_cons (pv 3) (pa_cons (pv 9) pa_nil)))) pe_int (fun _ _ => rfl)) (nomark _))
      (pss_one (ps_ret pe_bl))
      pss_nil)
      (pss_one (ps_ret (pe_dn D_law_runs hr (pa_cons (pv 8) (pa_cons (pv 3) (pa_cons (pv 9) (pa_cons (pv 10) (pa_cons (pv 11) pa_nil))))))))))))))))))))))), ?_⟩
  refine ⟨_, rfl, sa, ns, 0, rfl, hS, h63, by decide, by decide, fun c1 => ?_⟩
  refine ⟨_, _, rfl, rfl, (show (0 : Int) < 6 by decide), _, _, rfl, rfl, ?_⟩
  obtain ⟨n, hn⟩ : ∃ n, n = 1 + c1 % 6 := ⟨_, rfl⟩
  have n1 : 1 ≤ n ∧ n ≤ 6 := by omega
  replace hn : (fun i j : Int => V.int (i + j)) 1 (c1 % 6) = V.int n := by rw [hn]
  rw [hn]
  clear hn
  refine ⟨_, rfl, sa, ns, 0, rfl, hS, h63, by decide, by decide, fun c2 => ?_⟩
  refine ⟨_, _, rfl, rfl, ⟨by decide, by decide⟩, _, _, rfl, rfl, (show (0 : Int) < 3 by decide), _, _, rfl, rfl, ?_⟩
  obtain ⟨m, hm⟩ : ∃ m, m = 1 + c2 / 6 % 3 := ⟨_, rfl⟩
  have m1 : 1 ≤ m ∧ m ≤ 3 := by omega
  replace hm : (fun i j : Int => V.int (i + j)) 1 (c2 / 6 % 3) = V.int m := by rw [hm]
  rw [hm]
  clear hm
  refine ⟨_, rfl, _, rfl, _, rfl, sa, ns, n, m, rfl, hS, h63, n1.1, n1.2, m1.1, m1.2, fun v R H1 s1 hR I => ?_⟩
  refine ⟨_, rfl, sa, ns, 0, rfl, s1.seq hS, h63, by decide, by decide, fun c3 => ?_⟩
  refine ⟨_, _, rfl, rfl, ⟨by decide, by decide⟩, _, rfl, _, _, rfl, rfl, (show (0 : Int) < n by omega), ?_⟩
  have z0 : 0 ≤ c3 / 18 % n ∧ c3 / 18 % n < n := ⟨Int.emod_nonneg _ (by omega), Int.emod_lt_of_pos _ (by omega)⟩
  generalize hz : c3 / 18 % n = z at z0
  replace hz : (fun i j : Int => V.int (i % j)) (c3 / 18) n = V.int z := by rw [← hz]
  rw [hz]
  clear hz
  have M : MOk z R := I.ok z0
  refine ⟨_, rfl, _, rfl, _, rfl, sa, ns, z, n, m, _, R, rfl, s1.seq hS, h63, hR, I, fun p z' u R' H2 s2 h2 hR' no few few2 => ?_⟩
  refine ⟨p, _, rfl, SqL.of h2, rfl, _, _, rfl, _, _, rfl, rfl, ?_⟩
  obtain ⟨a', us', rfl, ha', ul', hat'⟩ := ms_parts hR'
  have s12 := s1.trans s2
  refine ⟨_, rfl, a', rfl, ⟨_, SqL.of ha'⟩, comp_listD (K := K) (a := a') (xs := us') (fun i ys H3 => Same H2 H3 ∧ Paired (rMR H3) (R'.take i) ys) ⟨Same.refl _, .nil⟩ (small (m := 1000) (by omega)) (fun i ys H3 hi h => ?_) (fun i v ys H3 hi h => ?_) (fun ys H3 h lb hlb => ?_)⟩
  · obtain ⟨s3, p3⟩ := h
    refine ⟨SqL.of (s3 _ _ ha'), ?_⟩
    rw [← pr_len p3]; exact List.length_take_le _ _
  · obtain ⟨s3, p3⟩ := h
    have il : i < R'.length := by rw [← ul']; exact (List.getElem?_eq_some_iff.mp hi).1
    obtain ⟨u, hu, hr'⟩ := hat' i _ (List.getElem?_eq_getElem il)
    rw [hi] at hu
    injection hu with hu
    subst hu
    obtain ⟨ai, ui, rfl, hai, pi⟩ := mono_mr.up s3 hr'
    refine comp_yes ?_
    refine ⟨_, rfl, ai, _, rfl, .inl (SqL.of hai), fun lc hlc => ?_⟩
    refine ⟨s3.trans (same_upd hlc _), ?_⟩
    rw [List.take_succ, List.getElem?_eq_getElem il]
    exact L2.Paired.app (paired_mono mono_mr (same_upd hlc _) p3) (.cons ⟨lc, ui, rfl, upd_same, paired_mono (mono_t2 mono_int mono_int) (same_upd hlc _) pi⟩ .nil)
  obtain ⟨s3, p3⟩ := h
  rw [ul', List.take_length] at p3
  have s4 := s3.trans (same_upd hlb (.lst ys))
  have hl4 : rMs (upd H3 lb (.lst ys)) R' (.ref lb) := ⟨lb, ys, rfl, upd_same, paired_mono mono_mr (same_upd hlb _) p3⟩
  generalize upd H3 lb (.lst ys) = H4 at s4 hl4 ⊢
  refine ⟨_, rfl, _, rfl, z', _, R', rfl, hl4, few, few2, no, fun H5 s5 => ⟨_, rfl, iteF ?_⟩⟩
  refine ⟨_, rfl, _, rfl, R', mono_ms.up s5 hl4, mono_ms.up (s4.trans s5) hR', _, rfl, iteF ?_⟩
  have hR5 := mono_ms.up (s2.trans (s4.trans s5)) hR
  replace s5 := s12.trans (s4.trans s5)
  clear hR hR' s12 s4 hl4 s3 p3 hlb ha' hat' h2 s2 s1
  obtain ⟨a, us, rfl, ha, ul, hat⟩ := ms_parts hR5
  have few' := I.few
  refine ⟨_, rfl, _, rfl, a, rfl, ⟨_, SqL.of ha⟩, comp_listD (K := K) (a := a) (xs := us) (fun i ys H3 => Same H5 H3 ∧ Paired (rMR H3) (R.take i) ys) ⟨Same.refl _, .nil⟩ (small (m := 1000) (by omega)) (fun i ys H3 hi h => ?_) (fun i v ys H3 hi h => ?_) (fun ys H3 h lb hlb => ?_)⟩
  · obtain ⟨s3, p3⟩ := h
    refine ⟨SqL.of (s3 _ _ ha), ?_⟩
    rw [← pr_len p3]; exact List.length_take_le _ _
  · obtain ⟨s3, p3⟩ := h
    have il : i < R.length := by rw [← ul]; exact (List.getElem?_eq_some_iff.mp hi).1
    obtain ⟨u, hu, hr'⟩ := hat i _ (List.getElem?_eq_getElem il)
    rw [hi] at hu
    injection hu with hu
    subst hu
    obtain ⟨ai, ui, rfl, hai, pi⟩ := mono_mr.up s3 hr'
    refine comp_yes ?_
    refine ⟨_, rfl, ai, _, rfl, .inl (SqL.of hai), fun lc hlc => ?_⟩
    refine ⟨s3.trans (same_upd hlc _), ?_⟩
    rw [List.take_succ, List.getElem?_eq_getElem il]
    exact L2.Paired.app (paired_mono mono_mr (same_upd hlc _) p3) (.cons ⟨lc, ui, rfl, upd_same, paired_mono (mono_t2 mono_int mono_int) (same_upd hlc _) pi⟩ .nil)
  obtain ⟨s3, p3⟩ := h
  rw [ul, List.take_length] at p3
  have s6 := s3.trans (same_upd hlb (.lst ys))
  have hl6 : rMs (upd H3 lb (.lst ys)) R (.ref lb) := ⟨lb, ys, rfl, upd_same, paired_mono mono_mr (same_upd hlb _) p3⟩
  generalize upd H3 lb (.lst ys) = H6 at s6 hl6 ⊢
  refine ⟨z, _, R, rfl, hl6, I.few, I.few2, fun _ vm H7 s7 hm => ?_, fun no => absurd M no⟩
  have hR7 := mono_ms.up (s6.trans s7) hR5
  replace s7 := s5.trans (s6.trans s7)
  obtain ⟨tm, x1, x2, rfl, htm, e1, e2⟩ := id hm
  refine ⟨_, rfl, _, "tuple", _, rfl, .inr (.inl ⟨rfl, _, htm⟩), isi_same _, _, rfl, ?_⟩
  refine iteF ?_
  refine ⟨_, rfl, _, rfl, _, rfl, (by show 2 ≤ sizeLine; decide), fun t8 ht8 => ?_⟩
  have s8 := same_upd ht8 (.tup [V.int z, .ref a])
  have hm8 : rT2 rInt rMs (upd H7 t8 (.tup [V.int z, .ref a])) (z, R) (.ref t8) := ⟨t8, _, _, rfl, upd_same, rfl, mono_ms.up s8 hR7⟩
  have hm' := hm_up s8 hm
  have hR8 := mono_ms.up s8 hR7
  replace s8 := s7.trans s8
  generalize upd H7 t8 (.tup [V.int z, .ref a]) = H8 at s8 hm8 hm' hR8 ⊢
  refine ⟨(z, R), hm', hm8, _, rfl, iteF ?_⟩
  refine ⟨_, rfl, _, rfl, sa, ns, m, rfl, s8.seq hS, h63, m1.1, m1.2, fun la ks H9 s9 hla kl good => ?_⟩
  have g : ∀ k ∈ ks, AskOk R k := fun k hk => ⟨(good k hk).1, by rw [I.wid]; exact (good k hk).2⟩
  have hm9 := hm_up s9 hm'
  have hR9 := mono_ms.up s9 hR8
  replace s9 := s8.trans s9
  refine ⟨_, rfl, sa, ns, 6, rfl, s9.seq hS, h63, by decide, by decide, fun c6 => ?_⟩
  refine ⟨_, _, rfl, rfl, ⟨by decide, by decide⟩, _, rfl, la, _, rfl, .inl (SqL.of hla), _, _, rfl, rfl, _, _, rfl, rfl, (show (0 : Int) < (((ks.map V.int).length : Nat) : Int) + 1 by omega), ?_⟩
  have cc : 0 ≤ c6 / 9 % ((((ks.map V.int).length : Nat) : Int) + 1) ∧ c6 / 9 % ((((ks.map V.int).length : Nat) : Int) + 1) < (((ks.map V.int).length : Nat) : Int) + 1 := ⟨Int.emod_nonneg _ (by omega), Int.emod_lt_of_pos _ (by omega)⟩
  generalize hc : c6 / 9 % ((((ks.map V.int).length : Nat) : Int) + 1) = c at cc
  replace hc : (fun i j : Int => V.int (i % j)) (c6 / 9) ((((ks.map V.int).length : Nat) : Int) + 1) = V.int c := by rw [← hc]
  rw [hc]
  clear hc
  rw [List.length_map] at cc
  obtain ⟨c, rfl⟩ := Int.eq_ofNat_of_zero_le cc.1
  have cn : c ≤ ks.length := by omega
  refine ⟨_, rfl, _, rfl, sa, ns, m, rfl, s9.seq hS, h63, m1.1, m1.2, fun wr H10 s10 bad => ?_⟩
  have badR : ¬ AskOk R wr := fun y => bad ⟨y.1, by have := y.2; rw [I.wid] at this; exact this⟩
  replace hm9 := hm_up s10 hm9
  replace hR9 := mono_ms.up s10 hR9
  replace hla := s10 _ _ hla
  replace s10 := s9.trans s10
  refine ⟨_, rfl, _, rfl, (c : Int), rfl, la, _, rfl, SqL.of hla, fun p1 hp1 => ?_⟩
  rw [cut_upto ks c cn]
  have t1 := same_upd hp1 (.lst ((ks.take c).map V.int))
  have k1 : upd H10 p1 (.lst ((ks.take c).map V.int)) p1 = some (.lst ((ks.take c).map V.int)) := upd_same
  generalize upd H10 p1 (.lst ((ks.take c).map V.int)) = G1 at t1 k1 ⊢
  refine ⟨_, rfl, (by show 1 ≤ sizeLine; decide), fun p2 hp2 => ?_⟩
  have lt1 : (ks.take c).length ≤ 8 := Nat.le_trans (List.length_take_le' _ _) kl
  have lt2 : (ks.drop c).length ≤ 8 := by rw [List.length_drop]; omega
  refine ⟨p1, p2, _, _, rfl, rfl, same_upd hp2 _ _ _ k1, upd_same, Nat.le_trans (show _ ≤ 1000 by rw [List.length_map, List.length_singleton]; omega) (small (m := 1000) (Nat.le_refl _)), fun p3 hp3 => ?_⟩
  have t3 := t1.trans ((same_upd hp2 (.lst [V.int wr])).trans (same_upd hp3 (.lst ((ks.take c).map V.int ++ [V.int wr]))))
  have k3 : upd (upd G1 p2 (.lst [V.int wr])) p3 (.lst ((ks.take c).map V.int ++ [V.int wr])) p3 = some (.lst ((ks.take c).map V.int ++ [V.int wr])) := upd_same
  generalize upd (upd G1 p2 (.lst [V.int wr])) p3 (.lst ((ks.take c).map V.int ++ [V.int wr])) = G3 at t3 k3 ⊢
  refine ⟨_, rfl, _, rfl, (c : Int), rfl, la, _, rfl, SqL.of (t3 _ _ hla), fun p4 hp4 => ?_⟩
  rw [cut_from ks c cn]
  refine ⟨p3, p4, _, _, rfl, rfl, same_upd hp4 _ _ _ k3, upd_same, Nat.le_trans (show _ ≤ 1000 by rw [List.length_append, List.length_map, List.length_map, List.length_singleton]; omega) (small (m := 1000) (Nat.le_refl _)), fun p5 hp5 => ?_⟩
  have t5 := t3.trans ((same_upd hp4 (.lst ((ks.drop c).map V.int))).trans (same_upd hp5 (.lst ((ks.take c).map V.int ++ [V.int wr] ++ (ks.drop c).map V.int))))
  have eg : (ks.take c).map V.int ++ [V.int wr] ++ (ks.drop c).map V.int = (ks.take c ++ [wr] ++ ks.drop c).map V.int := by rw [List.map_append, List.map_append]; rfl
  have k5 : upd (upd G3 p4 (.lst ((ks.drop c).map V.int))) p5 (.lst ((ks.take c).map V.int ++ [V.int wr] ++ (ks.drop c).map V.int)) p5 = some (.lst ((ks.take c ++ [wr] ++ ks.drop c).map V.int)) := by rw [upd_same, eg]
  generalize upd (upd G3 p4 (.lst ((ks.drop c).map V.int))) p5 (.lst ((ks.take c).map V.int ++ [V.int wr] ++ (ks.drop c).map V.int)) = G5 at t5 k5 ⊢
  replace hm9 := hm_up t5 hm9
  replace hR9 := mono_ms.up t5 hR9
  replace hla := t5 _ _ hla
  replace t5 := s10.trans t5
  have gl : (ks.take c ++ [wr] ++ ks.drop c).length ≤ 60 := by rw [List.length_append, List.length_append, List.length_singleton]; omega
  refine ⟨_, rfl, _, rfl, p5, _, rfl, .inl (SqL.of k5), fun p6 hp6 => ?_⟩
  have t6 := same_upd hp6 (.lst ((ks.take c ++ [wr] ++ ks.drop c).map V.int))
  refine ⟨_, z, R, p6, ks.take c ++ [wr] ++ ks.drop c, rfl, hm_up t6 hm9, upd_same, I.few, I.few2, gl, M, ⟨wr, List.mem_append_left _ (List.mem_append_right _ (List.mem_singleton.mpr rfl)), badR⟩, fun H11 s11 => ⟨_, rfl, iteF ?_⟩⟩
  replace s11 := t6.trans s11
  replace hm9 := hm_up s11 hm9
  replace hR9 := mono_ms.up s11 hR9
  replace hla := s11 _ _ hla
  replace s11 := t5.trans s11
  clear t5 t6 t3 t1 k5 k3 k1
  refine ⟨_, rfl, _, rfl, _, rfl, (by show 2 ≤ sizeLine; decide), fun t9 ht9 => ?_⟩
  have s12 := same_upd ht9 (.tup [V.int z, .ref a])
  have hm12 : rT2 rInt rMs (upd H11 t9 (.tup [V.int z, .ref a])) (z, R) (.ref t9) := ⟨t9, _, _, rfl, upd_same, rfl, mono_ms.up s12 hR9⟩
  replace hm9 := hm_up s12 hm9
  replace hR9 := mono_ms.up s12 hR9
  replace hla := s12 _ _ hla
  replace s12 := s11.trans s12
  generalize upd H11 t9 (.tup [V.int z, .ref a]) = H12 at s12 hm12 hm9 hR9 hla ⊢
  refine ⟨(z, R), hm9, hm12, _, rfl, iteF ?_⟩
  refine ⟨_, rfl, _, rfl, la, _, rfl, .inl (SqL.of hla), fun p7 hp7 => ?_⟩
  have t7 := same_upd hp7 (.lst (ks.map V.int))
  refine ⟨_, z, R, p7, ks, rfl, hm_up t7 hm9, upd_same, I.few, I.few2, by omega, M, fun _ pt H13 s13 kt => ?_, fun ⟨k, hk, no⟩ => absurd (g k hk) no⟩
  replace s13 := t7.trans s13
  refine ⟨_, rfl, _, rfl, _, rfl, z, _, R, la, ks, rfl, mono_ms.up s13 hR9, s13 _ _ hla, by omega, M, g, fun pw gw H14 s14 hw kw => ?_⟩
  refine ⟨pw, _, _, _, rfl, rfl, SqL.of hw, atI_nat (j := 0) rfl, (wlk R z ks).1, ints_rel (s14 _ _ kt), ints_rel kw, _, rfl, iteF ?_⟩
  replace s14 := s13.trans s14
  exact ⟨_, rfl, _, rfl, _, rfl, _, rfl, _, rfl, _, _, z, (c : Int), wr, R, la, ks, rfl, hm_up s14 hm9, mono_ms.up s14 hR9, s14 _ _ hla, I.few, I.few2, kl, M, g, cc.1, by omega, badR, q⟩
theorem main {f : Addr} {fd : FuncData} (T : Txt mg)
    (XC : XT K mg "GarthError" xRs xNs)
    {C_Runner : Addr} (CL_Runner : ClsAt K mg "Runner" C_Runner ["state", "rows"])
    (XS_NoAsk : PySem.W.exmOne K (.ref (clK K "NoAsk")) (.ref (clK K "NoAsk")) = some true)
    (A_is_whole : DefAt K mg "is_whole" s_is_whole ["value"])
    (A_is_place : DefAt K mg "is_place" s_is_place ["value", "count"])
    (A_check_machine_row : DefAt K mg "check_machine_row" s_check_machine_row ["row", "asks", "states"])
    (A_check_machine : DefAt K mg "check_machine" s_check_machine ["start", "rows"])
    (A_machine_of : DefAt K mg "machine_of" s_machine_of ["start", "rows"])
    (A_Runner___init__ : MkAt K C_Runner "Runner.__init__" s_Runner___init__ ["self", "machine"])
    (A_Runner_step : MeAt K C_Runner "step" "Runner.step" s_Runner_step ["self", "ask"])
    (A_told : DefAt K mg "told" s_told ["machine", "asks"])
    (A_law_at : DefAt K mg "_law_at" s_law_at ["_law_script", "_law_k"])
    (A_law_rows : DefAt K mg "_law_rows" s_law_rows ["_law_script", "_law_states", "_law_asks_here"])
    (A_law_is_other : DefAt K mg "_law_is_other" s_law_is_other ["_law_error"])
    (A_law_no_machine : DefAt K mg "_law_no_machine" s_law_no_machine ["_law_start", "_law_rows_here"])
    (A_law_no_ask : DefAt K mg "_law_no_ask" s_law_no_ask ["_law_machine", "_law_asked"])
    (A_law_no_step : DefAt K mg "_law_no_step" s_law_no_step ["_law_runner", "_law_ask"])
    (A_law_spoiled : DefAt K mg "_law_spoiled" s_law_spoiled ["_law_script", "_law_start", "_law_rows_here"])
    (A_law_asks : DefAt K mg "_law_asks" s_law_asks ["_law_script", "_law_asks_here"])
    (A_law_wrong_ask : DefAt K mg "_law_wrong_ask" s_law_wrong_ask ["_law_script", "_law_asks_here"])
    (A_law_walked : DefAt K mg "_law_walked" s_law_walked ["_law_start", "_law_rows_here", "_law_asked"])
    (A_law_runs : DefAt K mg "_law_runs" s_law_runs ["_law_machine", "_law_rows_here", "_law_asked", "_law_cut", "_law_wrong"])
    (F : Fun K "law" "law" s_law f fd) : FnOk P w K mg base CX0 7 f fd ["_law_script"] (spLaw K) := by
  have wh := ok_is_whole (P := P) (w := w) (base := base) A_is_whole T
  have pl := ok_is_place A_is_place T wh
  have mo := ok_mo A_machine_of T XC (ok_cm A_check_machine T XC pl (ok_rowC A_check_machine_row T XC pl))
  have ini := ok_initR (P := P) (w := w) (base := base) A_Runner___init__ T CL_Runner
  have stp := ok_step A_Runner_step T XC CL_Runner pl
  have tol := ok_told A_told T XC CL_Runner ini stp
  have at_ := ok_at (P := P) (w := w) (base := base) A_law_at T
  have oth := ok_other (P := P) (w := w) (base := base) A_law_is_other T XC
  have wal := ok_walk (P := P) (w := w) (base := base) A_law_walked T
  exact ok_law F T mo tol at_ (ok_rowsL A_law_rows T at_) (ok_noM A_law_no_machine T XC mo oth) (ok_noA A_law_no_ask T XC tol oth) (ok_sp A_law_spoiled T at_) (ok_asks A_law_asks T at_) (ok_wrong A_law_wrong_ask T at_) wal (ok_runs A_law_runs T CL_Runner ini stp (ok_noS A_law_no_step T XC XS_NoAsk CL_Runner stp) wal)
end
def askedOf := ({ ks := [(.df "is_whole", s_is_whole, none), (.df "is_place", s_is_place, none), (.df "check_machine_row", s_check_machine_row, none), (.df "check_machine", s_check_machine, none), (.df "machine_of", s_machine_of, none), (.me "Runner" "__init__" "Runner.__init__", s_Runner___init__, none), (.me "Runner" "step" "Runner.step", s_Runner_step, none), (.df "told", s_told, none), (.df "_law_at", s_law_at, none), (.df "_law_rows", s_law_rows, none), (.df "_law_is_other", s_law_is_other, none), (.df "_law_no_machine", s_law_no_machine, none), (.df "_law_no_ask", s_law_no_ask, none), (.df "_law_no_step", s_law_no_step, none), (.df "_law_spoiled", s_law_spoiled, none), (.df "_law_asks", s_law_asks, none), (.df "_law_wrong_ask", s_law_wrong_ask, none), (.df "_law_walked", s_law_walked, none), (.df "_law_runs", s_law_runs, none), (.df "law", s_law, none)], cs := [("Runner", ["state", "rows"])], is := [], ss := [], bs := ["ValueError", "any", "bool", "int", "isinstance", "len", "list", "range", "tuple"], xc := fun K => xcFacts K "GarthError" xRs xNs, ext := fun K => (refLook K "NoAsk" exsB, ()), extW := fun w => (some true, ()) } : Asked _)
theorem all_mk {P : Program} {w : World} {K : PySem.W.Frag} {h : Heap} {mg : Str → Option Value} {fa : Addr} (e : askedOf.Ok w K) (X : K.In h) (G : h.Ns mainGlobals mg) (hfa : mg "law" = some (.ref fa)) :
    ∃ fd : FuncData, (∀ (s : Shared) (v : Value), BindsTo s fd ⟨[v], []⟩ [("_law_script", v)]) ∧ ∀ base : Heap, K.In base → base.Ns mainGlobals mg → FnOk P w K mg base CX0 7 fa fd ["_law_script"] (spLaw K) := by
  have T : Txt mg := ⟨e.noneAt X G 0 rfl, e.noneAt X G 1 rfl, e.noneAt X G 2 rfl, e.noneAt X G 3 rfl, e.noneAt X G 4 rfl, e.noneAt X G 5 rfl, e.noneAt X G 6 rfl, e.noneAt X G 7 rfl, e.noneAt X G 8 rfl⟩
  have XC := xt_of X G e.exc
  obtain ⟨C_Runner, cA_Runner, cM_Runner, cK_Runner, CL_Runner⟩ := e.cls X G 0 rfl
  have XS_NoAsk : PySem.W.exmOne K (.ref (clK K "NoAsk")) (.ref (clK K "NoAsk")) = some true := by
    obtain ⟨d, hd, hi⟩ := refLook_at X G (congrArg (fun p => p.1) e.more)
    have z := hd.symm.trans (XC.m "NoAsk" (by decide))
    injection z with z
    injection z with z
    subst z
    exact beq_iff_eq.mp hi
  have A0 : DefAt K mg "is_whole" s_is_whole ["value"] := e.defAt X G 0 rfl (fun _ _ _ _ _ _ => L2.arg1 fun _ => rfl)
  have A1 : DefAt K mg "is_place" s_is_place ["value", "count"] := e.defAt X G 1 rfl (fun _ _ _ _ _ _ => L2.arg2 fun _ _ => rfl)
  have A2 : DefAt K mg "check_machine_row" s_check_machine_row ["row", "asks", "states"] := e.defAt X G 2 rfl (fun _ _ _ _ _ _ => L2.arg3 fun _ _ _ => rfl)
  have A3 : DefAt K mg "check_machine" s_check_machine ["start", "rows"] := e.defAt X G 3 rfl (fun _ _ _ _ _ _ => L2.arg2 fun _ _ => rfl)
  have A4 : DefAt K mg "machine_of" s_machine_of ["start", "rows"] := e.defAt X G 4 rfl (fun _ _ _ _ _ _ => L2.arg2 fun _ _ => rfl)
  have A5 : MkAt K C_Runner "Runner.__init__" s_Runner___init__ ["self", "machine"] := e.mkAt 5 cA_Runner cM_Runner cK_Runner rfl (fun _ _ _ _ _ _ => L2.arg2 fun _ _ => rfl)
  have A6 : MeAt K C_Runner "step" "Runner.step" s_Runner_step ["self", "ask"] := e.meAt 6 cA_Runner rfl (fun _ _ _ _ _ _ => L2.arg2 fun _ _ => rfl)
  have A7 : DefAt K mg "told" s_told ["machine", "asks"] := e.defAt X G 7 rfl (fun _ _ _ _ _ _ => L2.arg2 fun _ _ => rfl)
  have A8 : DefAt K mg "_law_at" s_law_at ["_law_script", "_law_k"] := e.defAt X G 8 rfl (fun _ _ _ _ _ _ => L2.arg2 fun _ _ => rfl)
  have A9 : DefAt K mg "_law_rows" s_law_rows ["_law_script", "_law_states", "_law_asks_here"] := e.defAt X G 9 rfl (fun _ _ _ _ _ _ => L2.arg3 fun _ _ _ => rfl)
  have A10 : DefAt K mg "_law_is_other" s_law_is_other ["_law_error"] := e.defAt X G 10 rfl (fun _ _ _ _ _ _ => L2.arg1 fun _ => rfl)
  have A11 : DefAt K mg "_law_no_machine" s_law_no_machine ["_law_start", "_law_rows_here"] := e.defAt X G 11 rfl (fun _ _ _ _ _ _ => L2.arg2 fun _ _ => rfl)
  have A12 : DefAt K mg "_law_no_ask" s_law_no_ask ["_law_machine", "_law_asked"] := e.defAt X G 12 rfl (fun _ _ _ _ _ _ => L2.arg2 fun _ _ => rfl)
  have A13 : DefAt K mg "_law_no_step" s_law_no_step ["_law_runner", "_law_ask"] := e.defAt X G 13 rfl (fun _ _ _ _ _ _ => L2.arg2 fun _ _ => rfl)
  have A14 : DefAt K mg "_law_spoiled" s_law_spoiled ["_law_script", "_law_start", "_law_rows_here"] := e.defAt X G 14 rfl (fun _ _ _ _ _ _ => L2.arg3 fun _ _ _ => rfl)
  have A15 : DefAt K mg "_law_asks" s_law_asks ["_law_script", "_law_asks_here"] := e.defAt X G 15 rfl (fun _ _ _ _ _ _ => L2.arg2 fun _ _ => rfl)
  have A16 : DefAt K mg "_law_wrong_ask" s_law_wrong_ask ["_law_script", "_law_asks_here"] := e.defAt X G 16 rfl (fun _ _ _ _ _ _ => L2.arg2 fun _ _ => rfl)
  have A17 : DefAt K mg "_law_walked" s_law_walked ["_law_start", "_law_rows_here", "_law_asked"] := e.defAt X G 17 rfl (fun _ _ _ _ _ _ => L2.arg3 fun _ _ _ => rfl)
  have A18 : DefAt K mg "_law_runs" s_law_runs ["_law_machine", "_law_rows_here", "_law_asked", "_law_cut", "_law_wrong"] := e.defAt X G 18 rfl (fun _ _ _ _ _ _ => L2.arg5 fun _ _ _ _ _ => rfl)
  obtain ⟨kV, doc, pm, an, cdv, ct, FL⟩ := e.law X G 19 rfl hfa
  exact ⟨_, fun s v => .of_eq rfl, fun base _ _ => main (P := P) (w := w) (base := base) T XC CL_Runner XS_NoAsk A0 A1 A2 A3 A4 A5 A6 A7 A8 A9 A10 A11 A12 A13 A14 A15 A16 A17 A18 FL⟩
def asL : List Nat := [0, 1, 2, 3, 4, 5, 6, 7, 8, 9, 10, 11, 12, 13, 14, 15, 22, 23, 24, 25, 28, 35, 36, 37, 40, 47, 48, 49, 52, 59, 60, 61, 64, 71, 72, 73, 76, 83, 84, 85, 88, 95, 96, 97, 100, 107, 108, 109, 112, 119, 120, 121, 124, 131, 132, 133, 136, 143, 144, 145, 148, 155, 156, 157, 160, 167, 168, 169, 172, 179, 180, 181, 184, 191, 192, 193, 196, 197, 198, 199, 200, 201, 202, 203, 204, 205, 206, 207, 208, 209, 210, 211, 212, 213, 214, 215, 216, 217, 218, 219, 220, 221, 222, 223, 224, 225, 226, 227, 228, 236, 237, 238, 239, 240, 241, 242, 243, 244, 245, 246, 247, 248, 249, 250, 251, 252, 255, 256, 257, 258, 259, 260, 261, 262, 263, 264, 265, 266, 267, 268, 269, 270, 271, 272, 273, 274, 275, 276, 277, 278, 279, 280, 281, 282, 283, 284, 285, 286, 287, 288, 289, 290, 291, 292, 293, 294, 295, 296, 297, 298, 299, 300, 301, 302, 303, 304, 305, 306, 307, 308, 309, 310, 311, 312, 313, 314, 315, 316, 317, 318, 319, 320, 321, 322, 323, 324, 325, 326, 327, 328, 329, 330, 331, 332, 333, 334, 335]
def qV : Program := PySem.W.view PySem.Challenge.pw_rankgarth_k48_refused_machines [37]
def loV : List Str := (PySem.Challenge.pw_rankgarth_k48_refused_machines.main.scope.names.map (·.1)).filter fun x => !(x == "law")
def xtV (s : Shared) : Bool := PySem.W.xlAt qV [] s && PySem.W.recOk (PySem.W.RowW.records PySem.Challenge.rw_rankgarth_k48_refused_machines.row.toRowW) s
def dL : PySem.DefRec := ⟨"law", defArgs s_law, defBody s_law, defScope s_law, posOf s_law⟩
set_option maxHeartbeats 0
theorem head_open : PySem.W.opening PySem.Challenge.pw_rankgarth_k48_refused_machines = PySem.W.plainProg PySem.Challenge.pw_rankgarth_k48_refused_machines.main.scope.names := by kernel_rfl
theorem head_run (w : World) (os : OsState) : (topRunQ PySem.Challenge.pw_rankgarth_k48_refused_machines w 11 (some (.ref 6)) 8108 ⟨boot_tree w.params, 11, {}, Array.mk [], PySem.W.boot_drawn, PySem.W.boot_toks, os⟩ (PySem.W.topStub PySem.Challenge.pw_rankgarth_k48_refused_machines)).map (fun r => topLook PySem.Challenge.pw_rankgarth_k48_refused_machines qV loV xtV true (fun s => askedOf.look (partOf asL s.heap)) (PySem.W.boot_heap w.params) r.abs) = some (true, PySem.W.openGood qV loV, askedOf.want w) := by kernel_rfl
theorem head_left : PySem.W.LeftO PySem.Challenge.rw_rankgarth_k48_refused_machines.row.prog qV loV xtV (fun s => askedOf.look (partOf asL s.heap)) (fun w => askedOf.want w) 8108 :=
  left_tree (p := PySem.Challenge.pw_rankgarth_k48_refused_machines) (H₀ := PySem.W.boot_heap) (gs₀ := Array.mk []) (d₀ := PySem.W.boot_drawn) (k₀ := PySem.W.boot_toks) (m₀ := 11) (ann := some (.ref 6)) (M := 8108) (T₀ := boot_tree) (n₀ := 11) (life := {}) (PySem.W.boot_open head_open (by decide +kernel) fun s => by kernel_rfl) (fun w => by kernel_rfl) (fun P => by kernel_rfl) head_run (by decide +kernel)
end Law
open PySem PySem.W PyProof.Rows
set_option maxRecDepth 100000 in
set_option maxHeartbeats 0 in
theorem PySem.Challenge.cw_rankgarth_k48_refused_machines_holds : PySem.Challenge.rw_rankgarth_k48_refused_machines.Holds := by
  refine PySem.W.holds_law (by kernel_rfl) fun said => ?_
  refine PySem.W.holds_open (q := Law.qV) (loose := Law.loV) (Xt := Law.xtV) (XP := XL Law.qV []) (YP := fun w h => ∃ K : Frag, K.In h ∧ Law.askedOf.Ok w K) (d := Law.dL) (kwd := []) Law.head_left (fun w s e => ⟨_, L2.partOf_in _ _, e⟩) (fun w h h' y k => y.elim fun K z => ⟨K, z.1.keeps k, z.2⟩) (fun s e => xl_of s (Bool.and_eq_true_iff.mp e).1) XL.keeps (by kernel_rfl) (by kernel_rfl) (by kernel_rfl) (fun s e => recFacts_of (Bool.and_eq_true_iff.mp e).2) (by kernel_rfl) said (by kernel_rfl) ⟨rfl, rfl, rfl, rfl, rfl, by decide +kernel⟩ ?hw ?hc
  case hw => w_witness2
  case hc => exact L2.walk_ex (l := PySem.Challenge.rw_rankgarth_k48_refused_machines) (n := 63) (k := 7) (x := "_law_script") (nm := "law") (sp := Law.spLaw) rfl (by decide) (by kernel_rfl) ⟨rfl, by decide, by decide⟩ (by kernel_rfl) (fun w K mg fa h e X G hm => Law.all_mk e X G hm) (fun _ _ a ns hl _ hS => ⟨a, ns, rfl, hS, hl, fun _ => rfl⟩) fun _ _ _ _ z => z
