import PyProof.Rows.All
import Wide.All
import OpenK.AllK
import Wide.FinOn
import Lean
import PyProof.EqAt
import PyProof.EqKinds
import PyProof.TupleCall
import PyProof.NeKinds
import KE.KDictSum
import PyProof.Rows.SetFrom
import KE.KSortTup
import PyProof.StrReplace2
import PyProof.StrOps2
import PySem.Challenge.RW_rankgarth_k73_texts_of_wishes_refused
set_option Elab.async false
set_option linter.all false
set_option maxRecDepth 100000
namespace L2
open PySem PySem.Spec PyProof.Rows
abbrev Key := Sum Int Str
def keyIs : Key → Value → Bool
  | .inl k, v => Value.isInt k v
  | .inr x, v => Value.isStrOf x v
def keyH (w : World) : Key → Int
  | .inl k => hashInt k
  | .inr x => hashStr w x
theorem keyIs_shape : ∀ {k : Key} {v : Value}, keyIs k v = true → (∃ i t, k = Sum.inl i ∧ v = Value.int i t) ∨ (∃ x t, k = Sum.inr x ∧ v = Value.str x t)
  | .inl i, v, h => by
    obtain ⟨t, e⟩ := Value.isInt_shape (k := i) (v := v) h
    exact .inl ⟨i, t, rfl, e⟩
  | .inr x, v, h => by
    obtain ⟨t, e⟩ := Value.isStrOf_shape (x := x) (v := v) h
    exact .inr ⟨x, t, rfl, e⟩
theorem keyIs_int (i : Int) (t : Tok) : keyIs (.inl i) (.int i t) = true := by simp [keyIs, Value.isInt]
theorem keyIs_str (x : Str) (t : Tok) : keyIs (.inr x) (.str x t) = true := by simp [keyIs, Value.isStrOf]
theorem key_ll (a b : Int) : decide ((Sum.inl a : Key) = Sum.inl b) = (a == b) := by
  by_cases e : a = b
  · subst e; simp
  · have h : ¬ (Sum.inl a : Key) = Sum.inl b := fun q => e (Sum.inl.inj q)
    rw [decide_eq_false h]
    exact (beq_eq_false_iff_ne.mpr e).symm
theorem key_rr (a b : Str) : decide ((Sum.inr a : Key) = Sum.inr b) = decide (a = b) := by
  by_cases e : a = b
  · subst e; simp
  · have h : ¬ (Sum.inr a : Key) = Sum.inr b := fun q => e (Sum.inr.inj q)
    rw [decide_eq_false h, decide_eq_false e]
theorem key_lr (a : Int) (b : Str) : decide ((Sum.inl a : Key) = Sum.inr b) = false := decide_eq_false (fun q => nomatch q)
theorem key_rl (a : Str) (b : Int) : decide ((Sum.inr a : Key) = Sum.inl b) = false := decide_eq_false (fun q => nomatch q)
def mixKind (prog : Program) (w : World) : PySem.KeyKind prog w Key where
  is := keyIs
  hash := keyH w
  inj := fun v a b ha hb => by
    rcases keyIs_shape ha with ⟨i, t, rfl, rfl⟩ | ⟨x, t, rfl, rfl⟩
    · rcases keyIs_shape hb with ⟨j, u, rfl, e⟩ | ⟨y, u, rfl, e⟩
      · injection e with e1 _; rw [e1]
      · exact nomatch e
    · rcases keyIs_shape hb with ⟨j, u, rfl, e⟩ | ⟨y, u, rfl, e⟩
      · exact nomatch e
      · injection e with e1 _; rw [e1]
  byValue := fun k v h => by
    rcases keyIs_shape h with ⟨i, t, rfl, rfl⟩ | ⟨x, t, rfl, rfl⟩ <;> rfl
  pyHash := fun hv h => by
    rcases keyIs_shape hv with ⟨i, t, rfl, rfl⟩ | ⟨x, t, rfl, rfl⟩
    · exact wpAny_pyHash_int h
    · exact wpAny_pyHash_str h
  eqBool := fun hu hv h => by
    rcases keyIs_shape hu with ⟨i, t, rfl, rfl⟩ | ⟨x, t, rfl, rfl⟩
    · rcases keyIs_shape hv with ⟨j, u, rfl, rfl⟩ | ⟨y, u, rfl, rfl⟩
      · rw [key_ll] at h; exact wpAny_eqBool_int h
      · rw [key_lr] at h; exact SeqAt.EqAt.int_str i t y u _ _ _ _ h
    · rcases keyIs_shape hv with ⟨j, u, rfl, rfl⟩ | ⟨y, u, rfl, rfl⟩
      · rw [key_rl] at h; exact SeqAt.EqAt.str_int x t j u _ _ _ _ h
      · rw [key_rr] at h; exact wpAny_eqBool_str h
  «strs» := fun k x t v h => by
    rcases keyIs_shape h with ⟨i, u, rfl, e⟩ | ⟨y, u, rfl, e⟩
    · exact nomatch e
    · injection e with e1 _
      subst e1
      cases v <;> rfl
theorem mixKind_int (prog : Program) (w : World) (i : Int) (t : Tok) : (mixKind prog w).is (.inl i) (.int i t) = true := keyIs_int i t
theorem mixKind_str (prog : Program) (w : World) (x : Str) (t : Tok) : (mixKind prog w).is (.inr x) (.str x t) = true := keyIs_str x t
end L2
namespace L2
open PySem PySem.Spec PyProof.Rows
inductive V where
  | non | bl (b : Bool) | int (i : Int) | str (x : Str) | byt (b : Array UInt8) | flt (b : UInt64) | ref (a : Addr) | ty (n : String)
  deriving DecidableEq
def RelV : V → Value → Prop
  | .non, u => u = Value.none
  | .bl b, u => u = Value.bool b
  | .int i, u => ∃ t, u = Value.int i t
  | .str x, u => ∃ t, u = Value.str x t
  | .byt b, u => ∃ t, u = Value.bytes b t
  | .flt b, u => ∃ t, u = Value.float b t
  | .ref a, u => u = Value.ref a
  | .ty n, u => u = Value.type n
abbrev Vals : List V → List Value → Prop := Paired RelV
theorem Vals.length {xs : List V} {us : List Value} (r : Vals xs us) : xs.length = us.length := Paired.length r
theorem Vals.get : ∀ {xs : List V} {us : List Value} {i : Nat} {x : V}, Vals xs us → xs[i]? = some x → ∃ u, us[i]? = some u ∧ RelV x u
  | _, _, _, _, .nil, e => by simp at e
  | _, _, 0, _, .cons r _, e => by simp at e; subst e; exact ⟨_, rfl, r⟩
  | _, _, i + 1, x, .cons _ t, e => by
    obtain ⟨u, h1, h2⟩ := Vals.get (i := i) (x := x) t (by simpa using e)
    exact ⟨u, by simpa using h1, h2⟩
theorem Vals.set {x : V} {u : Value} (r : RelV x u) : ∀ {xs : List V} {us : List Value} (i : Nat), Vals xs us → Vals (xs.set i x) (us.set i u)
  | _, _, _, .nil => .nil
  | _, _, 0, .cons _ t => .cons r t
  | _, _, i + 1, .cons q t => .cons q (Vals.set r i t)
theorem Vals.append : ∀ {xs ys : List V} {us ws : List Value}, Vals xs us → Vals ys ws → Vals (xs ++ ys) (us ++ ws)
  | _, _, _, _, .nil, s => s
  | _, _, _, _, .cons r t, s => .cons r (Vals.append t s)
theorem Vals.take : ∀ {xs : List V} {us : List Value} (n : Nat), Vals xs us → Vals (xs.take n) (us.take n)
  | _, _, 0, _ => .nil
  | _, _, _ + 1, .nil => .nil
  | _, _, n + 1, .cons r t => .cons r (Vals.take n t)
theorem Vals.drop : ∀ {xs : List V} {us : List Value} (n : Nat), Vals xs us → Vals (xs.drop n) (us.drop n)
  | _, _, 0, r => r
  | _, _, _ + 1, .nil => .nil
  | _, _, n + 1, .cons _ t => Vals.drop n t
def RelO : Option V → Option Value → Prop
  | some v, some u => RelV v u
  | none, none => True
  | _, _ => False
def KV {κ : Type} : List (κ × V) → List (κ × Value) → Prop := Paired fun (p : κ × V) (q : κ × Value) => p.1 = q.1 ∧ RelV p.2 q.2
def kV : Key → V
  | .inl i => .int i
  | .inr x => .str x
inductive HO where
    | lst (xs : List V)
    | tup (xs : List V)
    | dK (kvs : List (Key × V)) | dT (kvs : List (List Key × V))
    | set (S : Int → Bool) (n : Nat)
    | ins (C dx : Addr) (fs : List (Str × V))
    | own (x : Addr)
    | xd (fs : List (Str × V))
    | met (f x : Addr)
    | rng (lo hi : Int)
    | frz (o : Obj) (u : HO)
    | tbl (ps : Array Value)
    | ext (φ : Heap → Prop)
abbrev Hp := Addr → Option HO
def upd (H : Hp) (a : Addr) (o : HO) : Hp := fun b => if b = a then some o else H b
theorem upd_same {H : Hp} {a : Addr} {o : HO} : upd H a o a = some o := by unfold upd; rw [if_pos rfl]
theorem upd_ne {H : Hp} {a b : Addr} {o : HO} (h : b ≠ a) : upd H a o b = H b := by unfold upd; rw [if_neg h]
theorem ne_of_none {H : Hp} {a b : Addr} {o : HO} (h : H a = some o) (h' : H b = none) : a ≠ b := by
  intro e; subst e; rw [h] at h'; cases h'
section
variable (P : Program) (w : World)
def ObjOk (H : Hp) (h : Heap) (a : Addr) : HO → Prop
  | .lst xs => xs.length ≤ sizeLine ∧ ∃ (its : List Value) (n : Nat), Vals xs its ∧ h.get? a = some { cls := .type "list", data := .seq its.toArray n }
  | .tup xs => xs.length ≤ sizeLine ∧ ∃ its : List Value, Vals xs its ∧ IsTup h a its.toArray
  | .dK kvs => kvs.length ≤ sizeLine ∧ (a == sysModules) = false ∧ ∃ vs, KV kvs vs ∧ h.DictOf (mixKind P w) a vs
  | .dT kvs => kvs.length ≤ sizeLine ∧ (a == sysModules) = false ∧ ∃ xs : List (List Key × Addr × Value),
      Paired (fun (p : List Key × V) (q : List Key × Addr × Value) => p.1 = q.1 ∧ H q.2.1 = some (.tup (p.1.map kV)) ∧ RelV p.2 q.2.2) kvs xs ∧
      ∃ o es ep, h.get? a = some o ∧ o.ExactDict ∧ o.data = .dict es ep ∧ es.toList = xs.map (entryOfKey (tupleKind (mixKind P w))) ∧ (xs.map (·.1)).Nodup
  | .set S n => h.SetOf (intKind P w) a S n
  | .ins C dx fs => H dx = some (.own a) ∧ fs.length ≤ 1000 ∧ dx ≠ a ∧ h.get? a = some (PySem.W.instObj C dx) ∧
      ∃ mA, h.Ns1 dx mA ∧ (∀ f, RelO (fs.lookup f) (mA f)) ∧ PySem.Within mA (fs.map (·.1))
  | .own _ => ∃ o, h.get? a = some o
  | .xd fs => ∃ mA, h.Ns1 a mA ∧ ∀ f, RelO (fs.lookup f) (mA f)
  | .rng lo hi => ∃ t u v, h.get? a = some { cls := .type "range", data := .fields #[.int lo t, .int hi u, .int 1 v] }
  | .frz o u => h.get? a = some o ∧ ObjOk H h a u
  | .tbl ps => h.get? a = some { cls := .none, data := .fields ps }
  | .met f x => h.get? a = some (PySem.W.methodObj (.ref f) (.ref x))
  | .ext φ => φ h ∧ (∃ o, h.get? a = some o) ∧ ∀ h1 h2 : Heap, φ h1 → (∀ o, h1.get? a = some o → h2.get? a = some o) → φ h2
def HOk (H : Hp) (h : Heap) : Prop := ∀ a o, H a = some o → ObjOk P w H h a o
end
section
variable {P : Program} {w : World} {H H' : Hp} {h h' : Heap} {a : Addr} {o : HO}
theorem ObjOk.lt (x : ObjOk P w H h a o) : a < h.objs.size := by
  cases o with
  | lst xs => obtain ⟨_, _, _, _, e⟩ := x; exact Heap.lt_size e
  | tup xs => obtain ⟨_, _, _, p⟩ := x; exact p.lt
  | dK kvs => obtain ⟨_, _, _, _, o, _, _, e, _⟩ := x; exact Heap.lt_size e
  | dT kvs => obtain ⟨_, _, _, _, o, _, _, e, _⟩ := x; exact Heap.lt_size e
  | set S n => obtain ⟨o, _, _, _, e, _⟩ := x; exact Heap.lt_size e
  | ins C dx fs => obtain ⟨_, _, _, e, _⟩ := x; exact Heap.lt_size e
  | own y => obtain ⟨_, e⟩ := x; exact Heap.lt_size e
  | xd fs => obtain ⟨_, ⟨_, _, _, e, _⟩, _⟩ := x; exact Heap.lt_size e
  | rng lo hi => obtain ⟨_, _, _, e⟩ := x; exact Heap.lt_size e
  | frz ob u => obtain ⟨e, _⟩ := x; exact Heap.lt_size e
  | tbl ps => exact Heap.lt_size (show h.get? a = some _ from x)
  | met f y => exact Heap.lt_size (show h.get? a = some _ from x)
  | ext φ => obtain ⟨_, ⟨_, e⟩, _⟩ := x; exact Heap.lt_size e
theorem Paired.mapP {α β : Type} {F G : α → β → Prop} : ∀ {l₁ : List α} {l₂ : List β}, Paired F l₁ l₂ → (∀ a b, F a b → G a b) → Paired G l₁ l₂
  | _, _, .nil, _ => .nil
  | _, _, .cons r t, f => .cons (f _ _ r) (Paired.mapP t f)
theorem ObjOk.stay (x : ObjOk P w H h a o) (k : ∀ b u, (b = a ∨ H b = some (.own a)) → h.get? b = some u → h'.get? b = some u)
    (ho : ∀ b, H b = some (.own a) → H' b = some (.own a)) (ht : ∀ b xs, H b = some (.tup xs) → H' b = some (.tup xs)) : ObjOk P w H' h' a o := by
  induction o with
  | lst xs => obtain ⟨z, its, n, r, e⟩ := x; exact ⟨z, its, n, r, k _ _ (.inl rfl) e⟩
  | tup xs => obtain ⟨z, its, r, ob, e, c⟩ := x; exact ⟨z, its, r, ob, k _ _ (.inl rfl) e, c⟩
  | dK kvs => obtain ⟨z, y, vs, r, ob, es, ep, e, c⟩ := x; exact ⟨z, y, vs, r, ob, es, ep, k _ _ (.inl rfl) e, c⟩
  | dT kvs =>
    obtain ⟨z, y, xs, r, ob, es, ep, e, c⟩ := x
    exact ⟨z, y, xs, Paired.mapP r fun p q z => ⟨z.1, ht _ _ z.2.1, z.2.2⟩, ob, es, ep, k _ _ (.inl rfl) e, c⟩
  | set S n => obtain ⟨ob, es, ep, t, e, c⟩ := x; exact ⟨ob, es, ep, t, k _ _ (.inl rfl) e, c⟩
  | ins C dx fs =>
    obtain ⟨d, z, ne, e, mA, ⟨od, es, ep, e2, c⟩, r⟩ := x
    exact ⟨ho _ d, z, ne, k _ _ (.inl rfl) e, mA, ⟨od, es, ep, k _ _ (.inr d) e2, c⟩, r⟩
  | own y => obtain ⟨ob, e⟩ := x; exact ⟨ob, k _ _ (.inl rfl) e⟩
  | xd fs => obtain ⟨mA, ⟨od, es, ep, e, c⟩, r⟩ := x; exact ⟨mA, ⟨od, es, ep, k _ _ (.inl rfl) e, c⟩, r⟩
  | rng lo hi => obtain ⟨t, u, v, e⟩ := x; exact ⟨t, u, v, k _ _ (.inl rfl) e⟩
  | frz ob u ih => obtain ⟨e, q⟩ := x; exact ⟨k _ _ (.inl rfl) e, ih q⟩
  | tbl ps =>
    have e : h.get? a = some { cls := .none, data := .fields ps } := x
    show h'.get? a = some { cls := .none, data := .fields ps }
    exact k a _ (.inl rfl) e
  | met f y =>
    have e : h.get? a = some (PySem.W.methodObj (.ref f) (.ref y)) := x
    show h'.get? a = some (PySem.W.methodObj (.ref f) (.ref y))
    exact k a _ (.inl rfl) e
  | ext φ => obtain ⟨p, ⟨o, e⟩, st⟩ := x; exact ⟨st _ _ p fun o q => k _ _ (.inl rfl) q, ⟨o, k _ _ (.inl rfl) e⟩, st⟩
theorem HOk.lt (x : HOk P w H h) (e : H a = some o) : a < h.objs.size := (x a o e).lt
theorem HOk.fresh (x : HOk P w H h) (e : h.objs.size ≤ a) : H a = none := by
  cases q : H a with
  | none => rfl
  | some u => exact absurd (Nat.lt_of_lt_of_le (x.lt q) e) (Nat.lt_irrefl _)
theorem HOk.kept (x : HOk P w H h) (k : ∀ b u, h.get? b = some u → h'.get? b = some u) : HOk P w H h' := fun a o e =>
  (x a o e).stay (fun b u _ q => k b u q) (fun _ q => q) fun _ _ q => q
theorem HOk.laid (x : HOk P w H h) (k : ∀ b u, h.get? b = some u → h'.get? b = some u) (hp : h.objs.size ≤ a) (new : ObjOk P w (upd H a o) h' a o) : HOk P w (upd H a o) h' := fun b u e => by
  have hn := x.fresh hp
  by_cases hb : b = a
  · subst hb; rw [upd_same] at e; cases e; exact new
  · rw [upd_ne hb] at e
    exact (x b u e).stay (fun c v _ q => k c v q) (fun c q => by rw [upd_ne (ne_of_none q hn)]; exact q) fun c xs q => by rw [upd_ne (ne_of_none q hn)]; exact q
end
def Rd (H : Hp) (a : Addr) (u : HO) : Prop := H a = some u ∨ ∃ o, H a = some (.frz o u)
theorem Rd.ok {P : Program} {w : World} {H : Hp} {h : Heap} {a : Addr} {u : HO} (r : Rd H a u) (x : HOk P w H h) : ObjOk P w H h a u := by
  rcases r with r | ⟨o, r⟩
  · exact x a u r
  · obtain ⟨_, q⟩ := x a _ r
    exact q
def Mut : Option HO → Prop
  | some (.lst _) => True
  | some (.dK _) => True
  | some (.dT _) => True
  | some (.set _ _) => True
  | some (.ins _ _ _) => True
  | some (.ext _) => True
  | _ => False
section
variable {P : Program} {w : World} {H : Hp} {h h' : Heap} {x e : Addr} {o' : HO}
theorem HOk.write (ok : HOk P w H h) (mu : Mut (H x)) (he : e = x ∨ H e = some (.own x)) (k : ∀ b u, b ≠ e → h.get? b = some u → h'.get? b = some u) (heo : ∃ u, h'.get? e = some u)
    (new : ObjOk P w (upd H x o') h' x o') : HOk P w (upd H x o') h' := fun b u q => by
  have nown : ∀ c y, H c = some (.own y) → c ≠ x := fun c y r z => by subst z; rw [r] at mu; exact mu
  have ntup : ∀ c xs, H c = some (.tup xs) → c ≠ x := fun c xs r z => by subst z; rw [r] at mu; exact mu
  by_cases hb : b = x
  · subst hb; rw [upd_same] at q; cases q; exact new
  · rw [upd_ne hb] at q
    by_cases hbe : b = e
    · have q' : H b = some (.own x) := by
        rcases he with z | z
        · exact absurd (hbe.trans z) hb
        · rw [hbe]; exact z
      rw [q] at q'; cases q'
      obtain ⟨v, hv⟩ := heo
      exact ⟨v, by rw [hbe]; exact hv⟩
    · refine (ok b u q).stay (fun c v hc r => k c v ?_ r) (fun c r => by rw [upd_ne (nown c b r)]; exact r) fun c xs r => by rw [upd_ne (ntup c xs r)]; exact r
      rcases hc with rfl | hc
      · exact hbe
      · rintro rfl
        rcases he with z | z
        · exact nown c b hc z
        · rw [hc] at z; cases z; exact hb rfl
end
structure Un (fs ex : List Addr) (H H' : Hp) (h h' : Heap) : Prop where
  keep : ∀ b o, h.get? b = some o → H b = none → b ∉ fs → b ∉ ex → h'.get? b = some o
  slot : ∀ b o, h.get? b = some o → H b = none → b ∈ fs → b ∉ ex → ∃ sl, h'.get? b = some { o with slots := sl }
  free : ∀ b o, h.get? b = some o → H b = none → b ∉ ex → H' b = none
  there : ∀ b o, h.get? b = some o → b ∉ ex → ∃ o', h'.get? b = some o'
  tups : ∀ b xs, H b = some (.tup xs) → H' b = some (.tup xs)
  frzs : ∀ b o u, H b = some (.frz o u) → H' b = some (.frz o u)
  tbls : ∀ b ps, H b = some (.tbl ps) → ∃ more, H' b = some (.tbl (ps ++ more))
section
variable {fs fs' ex ex' : List Addr} {H H1 H2 : Hp} {h h1 h2 h' : Heap} {a x e : Addr} {o : HO}
theorem Un.any (u : Un fs ex H H1 h h1) {b : Addr} {ob : Obj} (q : h.get? b = some ob) (n : H b = none) (hx : b ∉ ex) : ∃ sl, h1.get? b = some { ob with slots := sl } := by
  by_cases hb : b ∈ fs
  · exact u.slot b ob q n hb hx
  · exact ⟨ob.slots, u.keep b ob q n hb hx⟩
theorem Un.kept (k : ∀ b u, h.get? b = some u → h'.get? b = some u) : Un fs ex H H h h' :=
  ⟨fun b ob q _ _ _ => k b ob q, fun b ob q _ _ _ => ⟨ob.slots, k b ob q⟩, fun _ _ _ n _ => n, fun b ob q _ => ⟨ob, k b ob q⟩, fun _ _ q => q, fun _ _ _ q => q, fun _ ps q => ⟨#[], by rw [q]; simp⟩⟩
theorem Un.refl : Un fs ex H H h h := Un.kept fun _ _ q => q
theorem Un.laid (k : ∀ b u, h.get? b = some u → h'.get? b = some u) (hp : h.objs.size ≤ a) (hn : H a = none) : Un fs ex H (upd H a o) h h' where
  keep := fun b u q _ _ _ => k b u q
  slot := fun b u q _ _ _ => ⟨u.slots, k b u q⟩
  free := fun b u q n _ => by rw [upd_ne (Nat.ne_of_lt (Nat.lt_of_lt_of_le (Heap.lt_size q) hp))]; exact n
  there := fun b u q _ => ⟨u, k b u q⟩
  tups := fun b xs q => by rw [upd_ne (ne_of_none q hn)]; exact q
  frzs := fun b u xs q => by rw [upd_ne (ne_of_none q hn)]; exact q
  tbls := fun b ps q => ⟨#[], by rw [upd_ne (ne_of_none q hn), q]; simp⟩
theorem Un.write (mu : Mut (H x)) (he : e = x ∨ H e = some (.own x)) (k : ∀ b u, b ≠ e → h.get? b = some u → h'.get? b = some u) (heo : ∃ u, h'.get? e = some u) : Un fs ex H (upd H x o) h h' := by
  have hx : ∀ b, H b = none → b ≠ x := fun b n z => by subst z; rw [n] at mu; exact mu
  have hb : ∀ b, H b = none → b ≠ e := fun b n z => by
    subst z
    rcases he with r | r
    · exact hx b n r
    · rw [n] at r; cases r
  have hm : ∀ b u, H b = some u → ¬ Mut (some u) → b ≠ x := fun b u q nm z => by subst z; rw [q] at mu; exact nm mu
  refine ⟨fun b u q n _ _ => k b u (hb b n) q, fun b u q n _ _ => ⟨u.slots, k b u (hb b n) q⟩, fun b u q n _ => by rw [upd_ne (hx b n)]; exact n, fun b u q _ => ?_,
    fun b xs q => by rw [upd_ne (hm b _ q fun z => z)]; exact q, fun b u xs q => by rw [upd_ne (hm b _ q fun z => z)]; exact q, fun b ps q => ⟨#[], by rw [upd_ne (hm b _ q fun z => z), q]; simp⟩⟩
  by_cases hbe : b = e
  · subst hbe; exact heo
  · exact ⟨u, k b u hbe q⟩
end
def trk (h : Heap) (H : Hp) : List Addr := (List.range h.objs.size).filter fun a => (H a).isSome
def hidT (h : Heap) (H : Hp) : Heap := PySem.W.hideAll h (trk h H)
theorem hidT_size (h : Heap) (H : Hp) : (hidT h H).objs.size = h.objs.size := PySem.W.hideAll_size _ _
theorem hidT_get {h : Heap} {H : Hp} {b : Addr} {o : Obj} (e : h.get? b = some o) (n : H b = none) : (hidT h H).get? b = some o :=
  PySem.W.hideAll_get _ e fun hm => by
    have q : (H b).isSome = true := (List.mem_filter.mp hm).2
    rw [n] at q; simp at q
theorem of_hidT {h : Heap} {H : Hp} {b : Addr} {o : Obj} (e : (hidT h H).get? b = some o) : h.get? b = some o ∧ H b = none := by
  have e' : h.get? b = some o := PySem.W.of_hideAll (trk h H) e
  refine ⟨e', ?_⟩
  cases q : H b with
  | none => rfl
  | some x =>
    have hm : b ∈ trk h H := List.mem_filter.mpr ⟨List.mem_range.mpr (Heap.lt_size e'), by simp [q]⟩
    have z : (hidT h H).get? b = none := PySem.W.hideAll_none (trk h H) hm
    rw [z] at e; cases e
end L2
namespace L2
open PySem PySem.Spec PyProof.Rows
structure Mod (K : PySem.W.Frag) (mg : Str → Option Value) (base : Heap) : Prop where
  kin : K.In base
  glob : base.Ns mainGlobals mg
  blt : ∃ mb, base.Ns builtinsNs mb ∧ ∀ x : Str, x ≠ "__name__" → mb x = bootBuiltins x
  nolimit : base.NoLimit
structure Cx where
  prog : Program
  w : World
  K : PySem.W.Frag
  mg : Str → Option Value
  base : Heap
  A : Around
  N : List Str
  s₀ : Shared
  H₀ : Hp
  env : Env
  outer : List Env
  stack : List Env
  ex : List Addr
  fn : Str → Bool
  calm : Bool
  pn : List (Addr × Obj)
  xe : Value → Shared → Prop
def frs (l : List Env) : List Addr := l.filterMap (·.frame)
abbrev Cx.fs (X : Cx) : List Addr := frs X.outer
def Vis (sc : Scope) (x : Str) : Prop := sc.names.lookup x = some .local ∨ sc.names.lookup x = some .cell ∨ sc.names.lookup x = some .free
def Loc (sc : Scope) (x : Str) : Prop := sc.names.lookup x = some .local ∨ sc.names.lookup x = some .cell
def Look (env : Env) (h : Heap) (m : Str → Option Value) (x : Str) (u : Value) : Prop :=
  (env.kindOf x = some .local ∧ m x = some u) ∨ ((env.kindOf x = some .cell ∨ env.kindOf x = some .free) ∧ ∃ c, env.cells.lookup x = some c ∧ h.IsCell c (some u))
structure Cx.Ok (X : Cx) : Prop where
  mod : Mod X.K X.mg X.base
  kind : X.env.scope.kind = .function
  glob : X.env.globals = mainGlobals
  blt : X.env.builtins = builtinsNs
  above : X.s₀.heap.objs.size ≤ X.env.locals
  inj : ∀ x y c, X.env.cells.lookup x = some c → X.env.cells.lookup y = some c → x = y
  has : ∀ x, (X.env.kindOf x = some .cell ∨ X.env.kindOf x = some .free) → ∃ c, X.env.cells.lookup x = some c
  cab : ∀ x c, X.fn x = true → X.env.cells.lookup x = some c → X.s₀.heap.objs.size ≤ c
  hd : X.calm = true → X.A.handled = none
  frames : X.A.frames = some X.stack
  stk : X.stack = X.outer ∨ (X.stack = X.env :: X.outer ∧ X.env.frame = some X.env.locals)
  exf : ∀ b ∈ X.ex, b ≠ X.env.locals ∧ ∀ x c, X.env.cells.lookup x = some c → c ≠ b
  bs : ∀ b o, X.base.get? b = some o → X.s₀.heap.get? b = some o ∧ X.H₀ b = none
  bsz : X.base.objs.size ≤ X.s₀.heap.objs.size
  noex : ∀ b o, X.base.get? b = some o → b ∉ X.ex
  exfs : ∀ b ∈ X.ex, b ∉ X.fs
  funs : X.s₀.heap.FunFrames X.base X.outer
  frf : ∀ b ∈ X.fs, X.H₀ b = none
structure Inv (X : Cx) (pins : List (Addr × Obj)) (σ : List (Option V)) (H : Hp) (s : Shared) : Prop where
  ok : X.Ok
  os : s.os = X.s₀.os
  bare : AllBare s.gens
  base : Un X.fs X.ex X.H₀ H X.s₀.heap s.heap
  loc : ∃ m, s.heap.Ns X.env.locals m ∧ ∀ (i : Nat) (x : Str) (v : V), X.N[i]? = some x → σ[i]? = some (some v) → Vis X.env.scope x → ∃ u, RelV v u ∧ Look X.env s.heap m x u
  cell : ∀ x c, X.env.cells.lookup x = some c → ∃ v, s.heap.IsCell c v
  free : H X.env.locals = none
  freeC : ∀ x c, X.env.cells.lookup x = some c → H c = none
  pin : ∀ p ∈ X.pn ++ pins, s.heap.get? p.1 = some p.2 ∧ H p.1 = none ∧ p.1 ≠ X.env.locals ∧ p.1 ∉ X.fs ∧ ∀ v, p.2.data ≠ .cell v
  hok : HOk X.prog X.w H s.heap
  len : σ.length = X.N.length
section
variable {X : Cx} {pins : List (Addr × Obj)} {σ : List (Option V)} {H H' : Hp} {s : Shared} {h' : Heap}
theorem Cx.Ok.nofr (ok : X.Ok) {b : Addr} {o : Obj} (e : X.base.get? b = some o) : b ∉ X.fs := fun hb => by
  have := (ok.funs.mem hb).1
  rw [e] at this; cases this
theorem Inv.bs (I : Inv X pins σ H s) : ∀ b o, X.base.get? b = some o → s.heap.get? b = some o ∧ H b = none := fun b o e =>
  ⟨I.base.keep b o (I.ok.bs b o e).1 (I.ok.bs b o e).2 (I.ok.nofr e) (I.ok.noex b o e), I.base.free b o (I.ok.bs b o e).1 (I.ok.bs b o e).2 (I.ok.noex b o e)⟩
theorem Inv.bk (I : Inv X pins σ H s) : ∀ b o, X.base.get? b = some o → s.heap.get? b = some o := fun b o e => (I.bs b o e).1
theorem Inv.mod (I : Inv X pins σ H s) : Mod X.K X.mg X.base := I.ok.mod
theorem Inv.kIn (I : Inv X pins σ H s) : X.K.In s.heap := I.ok.mod.kin.keeps I.bk
theorem Inv.lt (I : Inv X pins σ H s) : X.env.locals < s.heap.objs.size := let ⟨_, hn, _⟩ := I.loc; hn.lt
theorem Inv.sz (I : Inv X pins σ H s) : X.s₀.heap.objs.size ≤ s.heap.objs.size := Nat.le_trans I.ok.above (Nat.le_of_lt I.lt)
theorem Inv.nofs (I : Inv X pins σ H s) {a : Addr} (h : s.heap.objs.size ≤ a) : a ∉ X.fs := fun hb => by
  obtain ⟨_, o, ho, _⟩ := I.ok.funs.mem hb
  exact absurd (Nat.lt_of_lt_of_le (Heap.lt_size ho) (Nat.le_trans I.sz h)) (Nat.lt_irrefl _)
theorem Inv.cne (I : Inv X pins σ H s) : ∀ x c, X.env.cells.lookup x = some c → c ≠ X.env.locals := fun x c e z => by
  obtain ⟨v, o, ho, hd⟩ := I.cell x c e
  obtain ⟨m, ⟨o', es, ep, ho', hd', _⟩, _⟩ := I.loc
  rw [z, ho'] at ho; cases ho; rw [hd'] at hd; cases hd
theorem Inv.funs (I : Inv X pins σ H s) : s.heap.FunFrames X.base X.outer := by
  have all : ∀ (l : List Env), (∀ b ∈ frs l, b ∈ X.fs) → X.s₀.heap.FunFrames X.base l → s.heap.FunFrames X.base l := by
    intro l
    induction l with
    | nil => intro _ _; trivial
    | cons env r ih =>
      intro hs hl
      obtain ⟨hk, ⟨L, o, hf, hn, ho, hd⟩, hr⟩ := hl
      have hL : L ∈ X.fs := hs L (by unfold frs; rw [List.filterMap_cons, hf]; exact List.mem_cons_self)
      obtain ⟨sl, e⟩ := I.base.slot L o ho (I.ok.frf L hL) hL fun z => I.ok.exfs L z hL
      exact ⟨hk, ⟨L, _, hf, hn, e, hd⟩, ih (fun b hb => hs b (by unfold frs; rw [List.filterMap_cons, hf]; exact List.mem_cons_of_mem _ hb)) hr⟩
  exact all X.outer (fun _ hb => hb) I.ok.funs
theorem Inv.stack (I : Inv X pins σ H s) : s.heap.FunFrames X.base X.stack := by
  rcases I.ok.stk with e | ⟨e, hf⟩
  · rw [e]; exact I.funs
  · rw [e]
    obtain ⟨m, hn, _⟩ := I.loc
    refine .cons (by rw [I.ok.kind]; decide) hf hn ?_ I.funs
    exact Heap.get?_none_of_le (Nat.le_trans I.ok.bsz I.ok.above)
theorem Inv.stkSub (I : Inv X pins σ H s) : ∀ b ∈ frs X.stack, b ∈ X.env.locals :: X.fs := fun b hb => by
  rcases I.ok.stk with e | ⟨e, hf⟩
  · rw [e] at hb; exact List.mem_cons_of_mem _ hb
  · rw [e] at hb
    unfold frs at hb
    rw [List.filterMap_cons, hf] at hb
    exact hb
theorem Inv.stkFree (I : Inv X pins σ H s) : ∀ b ∈ frs X.stack, H b = none := fun b hb => by
  rcases List.mem_cons.mp (I.stkSub b hb) with e | hb
  · rw [e]; exact I.free
  · obtain ⟨_, o, ho, _⟩ := I.ok.funs.mem hb
    exact I.base.free b o ho (I.ok.frf b hb) fun z => I.ok.exfs b z hb
theorem Inv.step {g' : Array GenState} {t' : Nat} {d' : Drawn} {ch : List Addr} (I : Inv X pins σ H s)
    (hch : ∀ b ∈ ch, (b ∈ X.ex ∨ X.s₀.heap.objs.size ≤ b) ∧ b ≠ X.env.locals ∧ (∀ x c, X.env.cells.lookup x = some c → c ≠ b) ∧ ∀ p ∈ X.pn ++ pins, p.1 ≠ b)
    (keep : ∀ b o, b ≠ X.env.locals → b ∉ X.fs → b ∉ ch → s.heap.get? b = some o → H b = none → h'.get? b = some o)
    (slot : ∀ b o, b ≠ X.env.locals → b ∈ X.fs → b ∉ ch → s.heap.get? b = some o → H b = none → ∃ sl, h'.get? b = some { o with slots := sl }) (free : ∀ b o, b ∉ ch → s.heap.get? b = some o → H b = none → H' b = none)
    (there : ∀ b o, b ∉ ch → s.heap.get? b = some o → ∃ o', h'.get? b = some o')
    (tups : ∀ b xs, H b = some (.tup xs) → H' b = some (.tup xs)) (frzs : ∀ b o u, H b = some (.frz o u) → H' b = some (.frz o u)) (tbls : ∀ b ps, H b = some (.tbl ps) → ∃ more, H' b = some (.tbl (ps ++ more)))
    (ns : ∀ m, s.heap.Ns X.env.locals m → h'.Ns X.env.locals m) (hok : HOk X.prog X.w H' h') (hg : AllBare g') :
    Inv X pins σ H' { s with heap := h', gens := g', drawn := d', toks := t' } := by
  have neL : ∀ b o, X.s₀.heap.get? b = some o → b ≠ X.env.locals := fun b o e => Nat.ne_of_lt (Nat.lt_of_lt_of_le (Heap.lt_size e) I.ok.above)
  have neC : ∀ b o, X.s₀.heap.get? b = some o → b ∉ X.ex → b ∉ ch := fun b o e hx hb => by
    rcases (hch b hb).1 with z | z
    · exact hx z
    · exact absurd (Nat.lt_of_lt_of_le (Heap.lt_size e) z) (Nat.lt_irrefl _)
  have cellK : ∀ x c, X.env.cells.lookup x = some c → ∀ v, s.heap.IsCell c v → h'.IsCell c v := fun x c e v ⟨o, ho, hd⟩ => by
    have nch : c ∉ ch := fun z => (hch c z).2.2.1 x c e rfl
    by_cases hc : c ∈ X.fs
    · obtain ⟨sl, q⟩ := slot c o (I.cne x c e) hc nch ho (I.freeC x c e)
      exact ⟨_, q, hd⟩
    · exact ⟨o, keep c o (I.cne x c e) hc nch ho (I.freeC x c e), hd⟩
  refine ⟨I.ok, I.os, hg, ⟨fun b o e n hb hx => ?_, fun b o e n hb hx => ?_, fun b o e n hx => ?_, fun b o e hx => ?_, fun b xs e => tups b xs (I.base.tups b xs e), fun b o xs e => frzs b o xs (I.base.frzs b o xs e), fun b ps e => ?_⟩, ?_, fun x c e => ?_, ?_, fun x c e => ?_, fun p hp => ?_, hok, I.len⟩
  · exact keep b o (neL b o e) hb (neC b o e hx) (I.base.keep b o e n hb hx) (I.base.free b o e n hx)
  · obtain ⟨sl, e1⟩ := I.base.slot b o e n hb hx
    obtain ⟨sl', e2⟩ := slot b _ (neL b o e) hb (neC b o e hx) e1 (I.base.free b o e n hx)
    exact ⟨sl', e2⟩
  · obtain ⟨o', e1⟩ := I.base.there b o e hx
    exact free b o' (neC b o e hx) e1 (I.base.free b o e n hx)
  · obtain ⟨o', e1⟩ := I.base.there b o e hx
    exact there b o' (neC b o e hx) e1
  · obtain ⟨m1, e1⟩ := I.base.tbls b ps e
    obtain ⟨m2, e2⟩ := tbls b _ e1
    exact ⟨m1 ++ m2, by rw [e2, Array.append_assoc]⟩
  · obtain ⟨m, hn, hl⟩ := I.loc
    refine ⟨m, ns m hn, fun i x v e1 e2 e3 => ?_⟩
    obtain ⟨u, r, l⟩ := hl i x v e1 e2 e3
    refine ⟨u, r, ?_⟩
    rcases l with l | ⟨k, c, e, z⟩
    · exact .inl l
    · exact .inr ⟨k, c, e, cellK x c e _ z⟩
  · obtain ⟨v, z⟩ := I.cell x c e
    exact ⟨v, cellK x c e v z⟩
  · obtain ⟨m, ⟨o, _, _, ho, _⟩, _⟩ := I.loc
    exact free _ o (fun z => (hch _ z).2.1 rfl) ho I.free
  · obtain ⟨v, o, ho, hd⟩ := I.cell x c e
    exact free c o (fun z => (hch c z).2.2.1 x c e rfl) ho (I.freeC x c e)
  · obtain ⟨e, n, ne, nf, d⟩ := I.pin p hp
    have nch : p.1 ∉ ch := fun z => (hch p.1 z).2.2.2 p hp rfl
    exact ⟨keep p.1 p.2 ne nf nch e n, free p.1 p.2 nch e n, ne, nf, d⟩
theorem Inv.un {t' : Nat} (I : Inv X pins σ H s) (u : Un X.fs [] H H' s.heap h') (hok : HOk X.prog X.w H' h') : Inv X pins σ H' { s with heap := h', toks := t' } := by
  obtain ⟨m, ⟨o, es, ep, ho, r⟩, _⟩ := id I.loc
  obtain ⟨sl, hL⟩ := u.any ho I.free (by simp)
  exact I.step (g' := s.gens) (d' := s.drawn) (ch := []) (fun _ z => nomatch z) (fun b o _ hb _ e n => u.keep b o e n hb (by simp)) (fun b o _ hb _ e n => u.slot b o e n hb (by simp)) (fun b o _ e n => u.free b o e n (by simp)) (fun b o _ e => u.there b o e (by simp)) u.tups u.frzs u.tbls (fun m' hm => by
    obtain ⟨o', es', ep', ho', r'⟩ := hm
    rw [ho] at ho'; cases ho'
    exact ⟨_, es', ep', hL, r'⟩) hok I.bare
theorem Inv.call {g' : Array GenState} {t' : Nat} {d' : Drawn} {ch : List Addr} (I : Inv X pins σ H s) (u : Un (frs X.stack) ch H H' s.heap h') (hok : HOk X.prog X.w H' h') (hg : AllBare g')
    (hch : ∀ b ∈ ch, (b ∈ X.ex ∨ X.s₀.heap.objs.size ≤ b) ∧ b ≠ X.env.locals ∧ (∀ x c, X.env.cells.lookup x = some c → c ≠ b) ∧ ∀ p ∈ X.pn ++ pins, p.1 ≠ b) :
    Inv X pins σ H' { s with heap := h', gens := g', drawn := d', toks := t' } := by
  obtain ⟨m, ⟨o, es, ep, ho, r⟩, _⟩ := id I.loc
  obtain ⟨sl, hL⟩ := u.any ho I.free fun z => (hch _ z).2.1 rfl
  exact I.step (ch := ch) hch (fun b o hL hb hc e n => u.keep b o e n (fun z => (List.mem_cons.mp (I.stkSub b z)).elim hL hb) hc) (fun b o _ _ hc e n => u.any e n hc) (fun b o hc e n => u.free b o e n hc) (fun b o hc e => u.there b o e hc) u.tups u.frzs u.tbls (fun m' hm => by
    obtain ⟨o', es', ep', ho', r'⟩ := hm
    rw [ho] at ho'; cases ho'
    exact ⟨_, es', ep', hL, r'⟩) hok hg
theorem Inv.turned {t' : Nat} {it : Addr} (I : Inv X pins σ H s) (k : ∀ b o, b ≠ it → s.heap.get? b = some o → h'.get? b = some o) (hn : H it = none) (hL : it ≠ X.env.locals)
    (h1 : it ∈ X.ex ∨ X.s₀.heap.objs.size ≤ it) (h2 : ∀ x c, X.env.cells.lookup x = some c → c ≠ it) (h3 : ∀ p ∈ X.pn ++ pins, p.1 ≠ it) : Inv X pins σ H { s with heap := h', toks := t' } := by
  have nit : ∀ b u, H b = some u → b ≠ it := fun b u e z => by rw [z, hn] at e; cases e
  refine I.step (g' := s.gens) (d' := s.drawn) (ch := [it]) (fun b hb => ?_) (fun b o _ _ hc e _ => k b o (fun z => hc (by simp [z])) e) (fun b o _ _ hc e _ => ⟨o.slots, k b o (fun z => hc (by simp [z])) e⟩) (fun _ _ _ _ n => n)
    (fun b o hc e => ⟨o, k b o (fun z => hc (by simp [z])) e⟩) (fun _ _ e => e) (fun _ _ _ e => e) (fun b ps e => ⟨#[], by rw [e]; simp⟩) (fun m hm => ?_) (fun b u e => ?_) I.bare
  · have e : b = it := by simpa using hb
    subst e
    exact ⟨h1, hL, h2, h3⟩
  · obtain ⟨o, es, ep, ho, r⟩ := hm
    exact ⟨o, es, ep, k _ o (Ne.symm hL) ho, r⟩
  · refine (I.hok b u e).stay (fun c v hc q => k c v ?_ q) (fun _ q => q) fun _ _ q => q
    rcases hc with z | z
    · rw [z]; exact nit b u e
    · exact nit c _ z
theorem Inv.tok (I : Inv X pins σ H s) (t : Nat) : Inv X pins σ H { s with toks := t } := I.un (h' := s.heap) (t' := t) Un.refl I.hok
theorem Inv.kept {t' : Nat} (I : Inv X pins σ H s) (k : ∀ b u, s.heap.get? b = some u → h'.get? b = some u) : Inv X pins σ H { s with heap := h', toks := t' } := I.un (Un.kept k) (I.hok.kept k)
theorem Inv.laid {a : Addr} {o : HO} {t' : Nat} (I : Inv X pins σ H s) (k : ∀ b u, s.heap.get? b = some u → h'.get? b = some u) (hp : s.heap.objs.size ≤ a) (new : ObjOk X.prog X.w (upd H a o) h' a o) :
    Inv X pins σ (upd H a o) { s with heap := h', toks := t' } := I.un (Un.laid k hp (I.hok.fresh hp)) (I.hok.laid k hp new)
theorem Inv.write {x e : Addr} {o : HO} {t' : Nat} (I : Inv X pins σ H s) (mu : Mut (H x)) (he : e = x ∨ H e = some (.own x)) (k : ∀ b u, b ≠ e → s.heap.get? b = some u → h'.get? b = some u) (heo : ∃ u, h'.get? e = some u)
    (new : ObjOk X.prog X.w (upd H x o) h' x o) : Inv X pins σ (upd H x o) { s with heap := h', toks := t' } := I.un (Un.write mu he k heo) (I.hok.write mu he k heo new)
theorem Inv.weak {σ' : List (Option V)} (I : Inv X pins σ H s) (hl : σ'.length = σ.length) (w : ∀ (i : Nat) v, σ'[i]? = some (some v) → σ[i]? = some (some v)) : Inv X pins σ' H s :=
  ⟨I.ok, I.os, I.bare, I.base, let ⟨m, hn, hl'⟩ := I.loc; ⟨m, hn, fun i x v e1 e2 e3 => hl' i x v e1 (w i v e2) e3⟩, I.cell, I.free, I.freeC, I.pin, I.hok, hl.trans I.len⟩
theorem Inv.pins_of {pins' : List (Addr × Obj)} (I : Inv X pins σ H s) (h : ∀ p ∈ pins', s.heap.get? p.1 = some p.2 ∧ H p.1 = none ∧ p.1 ≠ X.env.locals ∧ p.1 ∉ X.fs ∧ ∀ v, p.2.data ≠ .cell v) : Inv X pins' σ H s :=
  ⟨I.ok, I.os, I.bare, I.base, I.loc, I.cell, I.free, I.freeC, fun p hp => (List.mem_append.mp hp).elim (fun z => I.pin p (List.mem_append_left _ z)) (h p), I.hok, I.len⟩
theorem nodup_ix {N : List Str} (hN : N.Nodup) {i j : Nat} {x : Str} (a : N[i]? = some x) (b : N[j]? = some x) : i = j := by
  obtain ⟨h1, e1⟩ := List.getElem?_eq_some_iff.mp a
  obtain ⟨h2, e2⟩ := List.getElem?_eq_some_iff.mp b
  exact (List.getElem_inj hN).mp (e1.trans e2.symm)
theorem store_ok2 {M : Model} {A : Around} {E : Value → Shared → Prop} {i : Nat} {x : Str} {v : V} {u : Value} {Q : Unit → Shared → Prop} (I : Inv X pins σ H s) (hN : X.N.Nodup) (hi : X.N[i]? = some x) (hx : Loc X.env.scope x) (r : RelV v u)
    (h : ∀ s', Inv X pins (σ.set i (some v)) H s' → (∃ a, Heap.SameBut a s.heap s'.heap ∧ (a = X.env.locals ∨ X.env.cells.lookup x = some a)) → Q () s') (hf : X.fn x = true ∨ X.env.scope.names.lookup x = some .local := by first | exact .inl rfl | exact .inr rfl | assumption) : wpAny M A (storeName X.env x u) Q E s := by
  obtain ⟨m, hn, hl⟩ := id I.loc
  have hcls : (X.env.scope.kind == .class || (X.env.scope.kind == .module && X.env.locals != X.env.globals)) = false := by rw [I.ok.kind]; rfl
  have hiσ : i < σ.length := by rw [I.len]; exact (List.getElem?_eq_some_iff.mp hi).1
  have cne := I.cne
  have tracked : ∀ {a : Addr} {h' : Heap}, (∃ o, s.heap.get? a = some o ∧ H a = none) → Heap.SameBut a s.heap h' → HOk X.prog X.w H h' := fun {a h'} ha hs b ob e => by
    obtain ⟨_, _, hfree⟩ := ha
    refine (I.hok b ob e).stay (fun c w' hc q => (hs.2 c ?_).trans q) (fun _ q => q) fun _ _ q => q
    rintro rfl
    rcases hc with rfl | hc
    · rw [hfree] at e; cases e
    · rw [hfree] at hc; cases hc
  rcases hx with hk | hk
  · refine wpAny_storeName_local hk hn (fun h' hn' hs => ?_) hcls
    obtain ⟨oL, _, _, hoL, _⟩ := id hn
    refine h _ ⟨I.ok, I.os, I.bare, ⟨fun b o e n hb hx => ?_, fun b o e n hb hx => ?_, I.base.free, fun b o e hx => ?_, I.base.tups, I.base.frzs, I.base.tbls⟩, ⟨_, hn', fun j y v' e1 e2 e3 => ?_⟩, fun y c e => ?_, I.free, I.freeC, fun p hp => ?_, tracked ⟨oL, hoL, I.free⟩ hs, by simpa using I.len⟩ ⟨_, hs, .inl rfl⟩
    · exact (hs.2 b (Nat.ne_of_lt (Nat.lt_of_lt_of_le (Heap.lt_size e) I.ok.above))).trans (I.base.keep b o e n hb hx)
    · obtain ⟨sl, e1⟩ := I.base.slot b o e n hb hx
      exact ⟨sl, (hs.2 b (Nat.ne_of_lt (Nat.lt_of_lt_of_le (Heap.lt_size e) I.ok.above))).trans e1⟩
    · obtain ⟨o', e1⟩ := I.base.there b o e hx
      exact ⟨o', (hs.2 b (Nat.ne_of_lt (Nat.lt_of_lt_of_le (Heap.lt_size e) I.ok.above))).trans e1⟩
    · by_cases hj : j = i
      · subst hj
        rw [hi] at e1; cases e1
        rw [List.getElem?_set_self hiσ] at e2
        cases e2
        exact ⟨u, r, .inl ⟨hk, by simp⟩⟩
      · rw [List.getElem?_set_ne (Ne.symm hj)] at e2
        obtain ⟨u', r', q⟩ := hl j y v' e1 e2 e3
        refine ⟨u', r', ?_⟩
        rcases q with ⟨k, e⟩ | ⟨k, c, e, z⟩
        · refine .inl ⟨k, ?_⟩
          have : y ≠ x := fun e => hj (nodup_ix hN e1 (e ▸ hi))
          simp [this, e]
        · exact .inr ⟨k, c, e, z.sameBut hs (cne y c e)⟩
    · obtain ⟨w', z⟩ := I.cell y c e
      exact ⟨w', z.sameBut hs (cne y c e)⟩
    · obtain ⟨e, n, ne, nf, d⟩ := I.pin p hp
      exact ⟨(hs.2 p.1 ne).trans e, n, ne, nf, d⟩
  · have hfn : X.fn x = true := by
      rcases hf with z | z
      · exact z
      · rw [z] at hk; cases hk
    obtain ⟨c, hc⟩ := I.ok.has x (.inl hk)
    obtain ⟨w', z⟩ := I.cell x c hc
    refine wpAny_storeName_cell I.ok.kind hk hc z (fun h' hc' hs => ?_)
    obtain ⟨oc, hoc, hocd⟩ := id z
    refine h { s with heap := h' } ⟨I.ok, I.os, I.bare, ⟨fun b o e n hb hx => ?_, fun b o e n hb hx => ?_, I.base.free, fun b o e hx => ?_, I.base.tups, I.base.frzs, I.base.tbls⟩, ⟨m, hn.sameBut hs (Ne.symm (cne x c hc)), fun j y v' e1 e2 e3 => ?_⟩, fun y c' e => ?_, I.free, I.freeC, fun p hp => ?_, tracked ⟨oc, hoc, I.freeC x c hc⟩ hs, by simpa using I.len⟩ ⟨c, hs, .inr hc⟩
    · exact (hs.2 b (Nat.ne_of_lt (Nat.lt_of_lt_of_le (Heap.lt_size e) (I.ok.cab x c hfn hc)))).trans (I.base.keep b o e n hb hx)
    · obtain ⟨sl, e1⟩ := I.base.slot b o e n hb hx
      exact ⟨sl, (hs.2 b (Nat.ne_of_lt (Nat.lt_of_lt_of_le (Heap.lt_size e) (I.ok.cab x c hfn hc)))).trans e1⟩
    · obtain ⟨o', e1⟩ := I.base.there b o e hx
      exact ⟨o', (hs.2 b (Nat.ne_of_lt (Nat.lt_of_lt_of_le (Heap.lt_size e) (I.ok.cab x c hfn hc)))).trans e1⟩
    · by_cases hj : j = i
      · subst hj
        rw [hi] at e1; cases e1
        rw [List.getElem?_set_self hiσ] at e2
        cases e2
        exact ⟨u, r, .inr ⟨.inl hk, c, hc, hc'⟩⟩
      · rw [List.getElem?_set_ne (Ne.symm hj)] at e2
        obtain ⟨u', r', q⟩ := hl j y v' e1 e2 e3
        refine ⟨u', r', ?_⟩
        rcases q with q | ⟨k, c', e, z'⟩
        · exact .inl q
        · refine .inr ⟨k, c', e, z'.sameBut hs ?_⟩
          rintro rfl
          exact hj (nodup_ix hN e1 (I.ok.inj _ _ _ e hc ▸ hi))
    · by_cases hcc : c' = c
      · subst hcc; exact ⟨_, hc'⟩
      · obtain ⟨w2, z2⟩ := I.cell y c' e
        exact ⟨w2, z2.sameBut hs hcc⟩
    · obtain ⟨e, n, ne, nf, d⟩ := I.pin p hp
      refine ⟨(hs.2 p.1 ?_).trans e, n, ne, nf, d⟩
      intro q
      rw [q, hoc] at e
      have q' : oc = p.2 := Option.some.inj e
      exact d w' (by rw [← q']; exact hocd)
theorem store_ok {M : Model} {A : Around} {E : Value → Shared → Prop} {i : Nat} {x : Str} {v : V} {u : Value} {Q : Unit → Shared → Prop} (I : Inv X pins σ H s) (hN : X.N.Nodup) (hi : X.N[i]? = some x) (hx : Loc X.env.scope x) (r : RelV v u)
    (h : ∀ s', Inv X pins (σ.set i (some v)) H s' → Q () s') (hf : X.fn x = true ∨ X.env.scope.names.lookup x = some .local := by first | exact .inl rfl | exact .inr rfl | assumption) : wpAny M A (storeName X.env x u) Q E s :=
  store_ok2 I hN hi hx r (fun s' I' _ => h s' I') hf
theorem Inv.call' {s' : Shared} {ch : List Addr} (I : Inv X pins σ H s) (ho : s'.os = s.os) (u : Un (frs X.stack) ch H H' s.heap s'.heap) (hok : HOk X.prog X.w H' s'.heap) (hg : AllBare s'.gens)
    (hch : ∀ b ∈ ch, (b ∈ X.ex ∨ X.s₀.heap.objs.size ≤ b) ∧ b ≠ X.env.locals ∧ (∀ x c, X.env.cells.lookup x = some c → c ≠ b) ∧ ∀ p ∈ X.pn ++ pins, p.1 ≠ b) : Inv X pins σ H' s' := by
  obtain ⟨h', g', d', t', o'⟩ := s'
  have e : o' = s.os := ho
  subst e
  exact I.call (g' := g') (t' := t') (d' := d') u hok hg hch
end
abbrev XK := Value → Option Addr → Hp → Prop
abbrev St := List (Option V)
abbrev VK := V → Hp → Prop
abbrev TE := St → Hp → VK → Prop
abbrev TT := St → Hp → (Bool → Hp → Prop) → Prop
abbrev TA := St → Hp → (List V → Hp → Prop) → Prop
structure Ends where
  nx : St → Hp → Prop
  rt : VK
  bk : St → Hp → Prop := fun _ _ => False
  ct : St → Hp → Prop := fun _ _ => False
abbrev TS := Ends → St → Hp → Prop
def EP (X : Cx) (pins : List (Addr × Obj)) (σ : St) (Q : VK) (u : Value) (s' : Shared) : Prop := ∃ v H', Inv X pins σ H' s' ∧ RelV v u ∧ Q v H'
def TP (X : Cx) (pins : List (Addr × Obj)) (σ : St) (Q : Bool → Hp → Prop) (b : Bool) (s' : Shared) : Prop := ∃ H', Inv X pins σ H' s' ∧ Q b H'
def AP (X : Cx) (pins : List (Addr × Obj)) (σ : St) (Q : List V → Hp → Prop) (us : List Value) (s' : Shared) : Prop := ∃ vs H', Inv X pins σ H' s' ∧ Vals vs us ∧ Q vs H'
def SP (X : Cx) (pins : List (Addr × Obj)) (D : Ends) (f : Flow) (s' : Shared) : Prop :=
  match f with
  | .next => ∃ σ' H', Inv X pins σ' H' s' ∧ D.nx σ' H'
  | .brk => ∃ σ' H', Inv X pins σ' H' s' ∧ D.bk σ' H'
  | .cont => ∃ σ' H', Inv X pins σ' H' s' ∧ D.ct σ' H'
  | .ret u => ∃ v σ' H', Inv X pins σ' H' s' ∧ RelV v u ∧ D.rt v H'
def PE (X : Cx) (e : Expr) (t : TE) : Prop :=
  ∀ (pins : List (Addr × Obj)) (s : Shared) (σ : St) (H : Hp) (Q : VK), Inv X pins σ H s → t σ H Q → wpAny (model X.prog X.w) X.A (eval e X.env) (EP X pins σ Q) X.xe s
def PT (X : Cx) (e : Expr) (t : TT) : Prop :=
  ∀ (pins : List (Addr × Obj)) (s : Shared) (σ : St) (H : Hp) (Q : Bool → Hp → Prop), Inv X pins σ H s → t σ H Q → wpAny (model X.prog X.w) X.A (isTrue e X.env (eval e X.env)) (TP X pins σ Q) X.xe s
def PW (X : Cx) (e : Expr) (t : TT) : Prop :=
  ∀ (whole : Sem Value) (pins : List (Addr × Obj)) (s : Shared) (σ : St) (H : Hp) (Q : Bool → Hp → Prop), Inv X pins σ H s → t σ H Q → wpAny (model X.prog X.w) X.A (isTrue e X.env whole) (TP X pins σ Q) X.xe s
theorem PW.pt {X : Cx} {e : Expr} {t : TT} (h : PW X e t) : PT X e t := h _
def PA (X : Cx) (es : List Expr) (t : TA) : Prop :=
  ∀ (pos : Pos) (pins : List (Addr × Obj)) (s : Shared) (σ : St) (H : Hp) (Q : List V → Hp → Prop), Inv X pins σ H s → t σ H Q → wpAny (model X.prog X.w) X.A (spliced (backTo pos (starEach es X.env))) (AP X pins σ Q) X.xe s
def PS (X : Cx) (st : Stmt) (t : TS) : Prop :=
  ∀ (pins : List (Addr × Obj)) (s : Shared) (σ : St) (H : Hp) (D : Ends), Inv X pins σ H s → t D σ H → wpAny (model X.prog X.w) X.A (exec st X.env) (SP X pins D) X.xe s
def PSs (X : Cx) (st : List Stmt) (t : TS) : Prop :=
  ∀ (pins : List (Addr × Obj)) (s : Shared) (σ : St) (H : Hp) (D : Ends), Inv X pins σ H s → t D σ H → wpAny (model X.prog X.w) X.A (execs st X.env) (SP X pins D) X.xe s
theorem thn {α : Type} {t : Sem α} {Q Q' : α → Shared → Prop} {M : Model} {A : Around} {E : Value → Shared → Prop} {s : Shared} (h : wpAny M A t Q E s) (hQ : ∀ a s, Q a s → Q' a s) : wpAny M A t Q' E s := wpAny_mono h hQ fun _ _ x => x
end L2
namespace L2
open PySem PySem.Spec PyProof.Rows
section
variable {X : Cx}
def tVar (i : Nat) : TE := fun σ H Q => ∃ v, σ[i]? = some (some v) ∧ Q v H
def tC (v : V) : TE := fun _ H Q => Q v H
theorem pe_var {i : Nat} {x : Str} {pos : Pos} (hN : X.N[i]? = some x) (hv : Vis X.env.scope x) (hd : (x == ("__debug__" : Str)) = false := by decide) (hcd : (x == ("__classdict__" : Str)) = false := by decide) : PE X (.Name x pos) (tVar i) := by
  intro pins s σ H Q I h
  obtain ⟨v, e, h⟩ := h
  obtain ⟨m, hn, hl⟩ := I.loc
  obtain ⟨u, r, l⟩ := hl i x v hN e hv
  have fin : EP X pins σ Q u s := ⟨v, H, I, r, h⟩
  rcases l with ⟨hk, hm⟩ | ⟨hk, c, hc, hcell⟩
  · exact wpAny_Name (wpAny_loadName_local I.ok.kind hk hn hm fin) hd
  · rcases hk with hk | hk
    · exact wpAny_Name (wpAny_loadName_cell I.ok.kind hk hc hcell fin) hd
    · exact wpAny_Name (wpAny_loadName_free I.ok.kind hk hc hcell fin hcd) hd
theorem pe_int {i j pos} : PE X (.Constant (.int i) j pos) (tC (.int i)) := fun _ _ _ H _ I h => wpAny_Constant_int ⟨.int i, H, I.tok _, ⟨_, rfl⟩, h⟩
theorem pe_bl {b j pos} : PE X (.Constant (.bool b) j pos) (tC (.bl b)) := fun _ _ _ H _ I h => Constant_bool ⟨.bl b, H, I, rfl, h⟩
theorem pe_non {j pos} : PE X (.Constant .none j pos) (tC .non) := fun _ _ _ H _ I h => Constant_none ⟨.non, H, I, rfl, h⟩
theorem pe_str {x j pos} : PE X (.Constant (.str x) j pos) (tC (.str x)) := fun _ _ _ H _ I h => Calls.Constant_str ⟨.str x, H, I.tok _, ⟨_, rfl⟩, h⟩
def Gl (X : Cx) (x : Str) : Prop := X.env.kindOf x = some .globalImplicit
theorem ld_glob {E : Value → Shared → Prop} {pins : List (Addr × Obj)} {s : Shared} {σ : St} {H : Hp} {x : Str} {u : Value} {pos : Pos} {Q : Value → Shared → Prop} (I : Inv X pins σ H s) (hg : Gl X x) (hm : X.mg x = some u) (h : Q u s)
    (hd : (x == ("__debug__" : Str)) = false := by decide) : wpAny (model X.prog X.w) X.A (eval (.Name x pos) X.env) Q E s :=
  Calls.Name_function_global I.ok.kind hg (Calls.loadGlobal_global (by rw [I.ok.glob]; exact I.mod.glob.keeps I.bk) hm h) hd
theorem ld_blt {E : Value → Shared → Prop} {pins : List (Addr × Obj)} {s : Shared} {σ : St} {H : Hp} {x : Str} {u : Value} {pos : Pos} {Q : Value → Shared → Prop} (I : Inv X pins σ H s) (hg : Gl X x) (hm : X.mg x = none) (hv : bootBuiltins x = some u) (h : Q u s)
    (hn : x ≠ "__name__" := by decide) (hd : (x == ("__debug__" : Str)) = false := by decide) : wpAny (model X.prog X.w) X.A (eval (.Name x pos) X.env) Q E s := by
  obtain ⟨mb, h1, h2⟩ := I.mod.blt
  exact Calls.Name_function_global I.ok.kind hg (Calls.loadGlobal_builtin (by rw [I.ok.glob]; exact I.mod.glob.keeps I.bk) hm (by rw [I.ok.blt]; exact h1.keeps I.bk) ((h2 x hn).trans hv) h) hd
theorem pe_glob {x : Str} {v : V} {u : Value} {pos : Pos} (hg : Gl X x) (hm : X.mg x = some u) (r : RelV v u) (hd : (x == ("__debug__" : Str)) = false := by decide) : PE X (.Name x pos) (tC v) :=
  fun _ _ _ H _ I h => ld_glob I hg hm ⟨v, H, I, r, h⟩ hd
theorem pe_bltn {x : Str} {v : V} {u : Value} {pos : Pos} (hg : Gl X x) (hm : X.mg x = none) (hv : bootBuiltins x = some u) (r : RelV v u) (hn : x ≠ "__name__" := by decide) (hd : (x == ("__debug__" : Str)) = false := by decide) : PE X (.Name x pos) (tC v) :=
  fun _ _ _ H _ I h => ld_blt I hg hm hv ⟨v, H, I, r, h⟩ hn hd
variable {a b : Expr} {ta tb : TE} {pos : Pos}
def PC (X : Cx) (op : CmpOp) (a b : Expr) (t : TE) : Prop :=
  ∀ (pins : List (Addr × Obj)) (s : Shared) (σ : St) (H : Hp) (Q : VK), Inv X pins σ H s → t σ H Q →
    wpAny (model X.prog X.w) X.A (eval a X.env) (fun v s₁ => wpAny (model X.prog X.w) X.A (eval b X.env) (fun u s₂ => wpAny (model X.prog X.w) X.A (compareOp op v u) (EP X pins σ Q) X.xe s₂) X.xe s₁) X.xe s
theorem nobehind (b : Expr) {op : CmpOp} (h : op ≠ .In) (h2 : op ≠ .NotIn) : behindInMarks op b = false := by
  have e1 : (op == CmpOp.In) = false := by cases op <;> first | rfl | exact absurd rfl h
  have e2 : (op == CmpOp.NotIn) = false := by cases op <;> first | rfl | exact absurd rfl h2
  cases b <;> simp [behindInMarks, e1, e2]
def tB (t : TE) : TT := fun σ H Q => t σ H fun x H1 => ∃ c, x = .bl c ∧ Q c H1
theorem pt_cmp {op : CmpOp} {t : TE} (h : PC X op a b t) (h1 : behindInMarks op b = false := by first | exact nobehind _ (by decide) (by decide) | rfl) : PT X (.Compare a [op] [b] pos) (tB t) := by
  intro pins s σ H Q I hw
  refine wpAny_isTrue_Compare1 (thn (h pins s σ H _ I hw) fun v s1 h1 => thn h1 fun u s2 h2 => thn h2 fun c s3 hm0 => ?_) h1
  obtain ⟨x, H1, I1, r1, q1⟩ := hm0
  obtain ⟨d, rfl, q⟩ := q1
  cases r1
  exact wpAny_truthy_bool ⟨H1, I1, q⟩
theorem pt_val {e : Expr} {t : TE} (h : PE X e t) (he : ∀ whole, isTrue e X.env whole = (do let v ← whole; standAt e.pos; holding [v] (truthy v)) := by intro _; rfl) : PT X e (tB t) := by
  intro pins s σ H Q I hw
  refine isTrue_plain (thn (h pins s σ H _ I hw) fun v s1 hm0 => ?_) (he _)
  obtain ⟨x, H1, I1, r1, q1⟩ := hm0
  obtain ⟨d, rfl, q⟩ := q1
  cases r1
  exact wpAny_truthy_bool ⟨H1, I1, q⟩
variable {tA tB' : TT} {rest : List Expr}
def tAnd (t u : TT) : TT := fun σ H Q => t σ H fun c H1 => if c = true then u σ H1 Q else Q false H1
def tOr (t u : TT) : TT := fun σ H Q => t σ H fun c H1 => if c = true then Q true H1 else u σ H1 Q
def tNot (t : TT) : TT := fun σ H Q => t σ H fun c H1 => Q (!c) H1
theorem pw_and1 (ha : PT X a tA) : PW X (.BoolOp .And [a] pos) tA := by
  intro wh pins s σ H Q I h
  refine isTrue_and (thn (ha pins s σ H Q I h) fun c s1 e => ?_)
  cases c with
  | true => exact isTrue_and_nil e
  | false => exact e
theorem pw_or1 (ha : PT X a tA) : PW X (.BoolOp .Or [a] pos) tA := by
  intro wh pins s σ H Q I h
  refine isTrue_or (thn (ha pins s σ H Q I h) fun c s1 e => ?_)
  cases c with
  | false => exact isTrue_or_nil e
  | true => exact e
theorem pw_and (ha : PT X a tA) (hb : PW X (.BoolOp .And (b :: rest) pos) tB') : PW X (.BoolOp .And (a :: b :: rest) pos) (tAnd tA tB') := by
  intro wh pins s σ H Q I h
  refine isTrue_and (thn (ha pins s σ H _ I h) fun c s1 hm0 => ?_)
  obtain ⟨H1, I1, q1⟩ := hm0
  cases c with
  | true => exact hb wh pins s1 σ H1 Q I1 q1
  | false => exact ⟨H1, I1, q1⟩
theorem pw_or (ha : PT X a tA) (hb : PW X (.BoolOp .Or (b :: rest) pos) tB') : PW X (.BoolOp .Or (a :: b :: rest) pos) (tOr tA tB') := by
  intro wh pins s σ H Q I h
  refine isTrue_or (thn (ha pins s σ H _ I h) fun c s1 hm0 => ?_)
  obtain ⟨H1, I1, q1⟩ := hm0
  cases c with
  | true => exact ⟨H1, I1, q1⟩
  | false => exact hb wh pins s1 σ H1 Q I1 q1
theorem pt_not (ha : PT X a tA) : PT X (.UnaryOp .Not a pos) (tNot tA) := by
  intro pins s σ H Q I h
  exact isTrue_not (ha pins s σ H (fun c H1 => Q (!c) H1) I h)
def tAndV (ta tb : TE) : TE := fun σ H Q => ta σ H fun x H1 => ∃ c, x = .bl c ∧ if c = true then tb σ H1 Q else Q (.bl false) H1
def tOrV (ta tb : TE) : TE := fun σ H Q => ta σ H fun x H1 => ∃ c, x = .bl c ∧ if c = true then Q (.bl true) H1 else tb σ H1 Q
def tNotV (ta : TE) : TE := fun σ H Q => ta σ H fun x H1 => ∃ c, x = .bl c ∧ Q (.bl (!c)) H1
theorem pe_one {op} {t : TE} (h : PE X a t) : PE X (.BoolOp op [a] pos) t := fun pins s σ H Q I hw => BoolOp_one (h pins s σ H Q I hw)
theorem pe_and (ha : PE X a ta) (hb : PE X (.BoolOp .And (b :: rest) pos) tb) : PE X (.BoolOp .And (a :: b :: rest) pos) (tAndV ta tb) := by
  intro pins s σ H Q I h
  refine BoolOp_and (thn (ha pins s σ H _ I h) fun v s1 hm0 => ?_)
  obtain ⟨x, H1, I1, r1, q1⟩ := hm0
  obtain ⟨c, rfl, q1⟩ := q1
  cases r1
  refine wpAny_truthy_bool ?_
  cases c with
  | true => exact hb pins s1 σ H1 Q I1 q1
  | false => exact ⟨.bl false, H1, I1, rfl, q1⟩
theorem pe_or (ha : PE X a ta) (hb : PE X (.BoolOp .Or (b :: rest) pos) tb) : PE X (.BoolOp .Or (a :: b :: rest) pos) (tOrV ta tb) := by
  intro pins s σ H Q I h
  refine BoolOp_or (thn (ha pins s σ H _ I h) fun v s1 hm0 => ?_)
  obtain ⟨x, H1, I1, r1, q1⟩ := hm0
  obtain ⟨c, rfl, q1⟩ := q1
  cases r1
  refine wpAny_truthy_bool ?_
  cases c with
  | false => exact hb pins s1 σ H1 Q I1 q1
  | true => exact ⟨.bl true, H1, I1, rfl, q1⟩
theorem pe_not (ha : PE X a ta) : PE X (.UnaryOp .Not a pos) (tNotV ta) := by
  intro pins s σ H Q I h
  refine UnaryOp_ (thn (ha pins s σ H _ I h) fun v s1 hm0 => ?_)
  obtain ⟨x, H1, I1, r1, q1⟩ := hm0
  obtain ⟨c, rfl, q1⟩ := q1
  cases r1
  exact not_of (wpAny_truthy_bool ⟨.bl (!c), H1, I1, rfl, q1⟩)
def tIf (t : TT) (ta tb : TE) : TE := fun σ H Q => t σ H fun c H1 => if c = true then ta σ H1 Q else tb σ H1 Q
theorem pe_ifExp {c : Expr} (hc : PT X c tA) (ha : PE X a ta) (hb : PE X b tb) : PE X (.IfExp c a b pos) (tIf tA ta tb) := by
  intro pins s σ H Q I h
  refine wpAny_IfExp (thn (hc pins s σ H _ I h) fun d s1 hm0 => ?_)
  obtain ⟨H1, I1, q1⟩ := hm0
  cases d with
  | true => exact ha pins s1 σ H1 Q I1 q1
  | false => exact hb pins s1 σ H1 Q I1 q1
end
end L2
namespace L2
open PySem PySem.Spec PyProof.Rows
def SqL (K : PySem.W.Frag) (H : Hp) (a : Addr) (xs : List V) : Prop :=
  Rd H a (.lst xs) ∨
    ∃ (o : Obj) (its : Array Value) (n : Nat), K.lookup a = some o ∧ o.cls = .type "list" ∧ o.dict = none ∧ o.data = .seq its n ∧ its.size ≤ sizeLine ∧ Vals xs its.toList
def SqT (K : PySem.W.Frag) (H : Hp) (a : Addr) (xs : List V) : Prop :=
  Rd H a (.tup xs) ∨
    ∃ (o : Obj) (its : Array Value) (n : Nat), K.lookup a = some o ∧ o.cls = .type "tuple" ∧ o.data = .seq its n ∧ its.size ≤ sizeLine ∧ Vals xs its.toList
def absV : Value → Option V
  | .none => some .non
  | .bool b => some (.bl b)
  | .int i _ => some (.int i)
  | .str x _ => some (.str x)
  | .bytes b _ => some (.byt b)
  | .float b _ => some (.flt b)
  | .ref a => some (.ref a)
  | .type n => some (.ty n)
  | _ => none
theorem RelV.abs {x : V} {u : Value} (r : RelV x u) : absV u = some x := by
  cases x with
  | non => cases r; rfl
  | bl _ => cases r; rfl
  | int _ => obtain ⟨t, rfl⟩ := r; rfl
  | str _ => obtain ⟨t, rfl⟩ := r; rfl
  | byt _ => obtain ⟨t, rfl⟩ := r; rfl
  | flt _ => obtain ⟨t, rfl⟩ := r; rfl
  | ref _ => cases r; rfl
  | ty _ => cases r; rfl
theorem RelV.inj {x y : V} {u : Value} (r : RelV x u) (q : RelV y u) : x = y := Option.some.inj (r.abs.symm.trans q.abs)
theorem Vals.inj : ∀ {xs ys : List V} {us : List Value}, Vals xs us → Vals ys us → xs = ys
  | _, _, _, .nil, .nil => rfl
  | _, _, _, .cons r t, .cons r' t' => by rw [r.inj r', Vals.inj t t']
section
variable {X : Cx} {pins : List (Addr × Obj)} {σ : St} {H : Hp} {s : Shared} {a : Addr} {xs ys : List V}
theorem SqL.of {K : PySem.W.Frag} (h : H a = some (.lst xs)) : SqL K H a xs := .inl (.inl h)
theorem SqT.of {K : PySem.W.Frag} (h : H a = some (.tup xs)) : SqT K H a xs := .inl (.inl h)
theorem Inv.list (I : Inv X pins σ H s) (h : SqL X.K H a xs) : ∃ its : List Value, Vals xs its ∧ PlainL s.heap a its.toArray ∧ xs.length ≤ sizeLine := by
  rcases h with h | ⟨o, its, n, hk, hc, hd, hs, hz, r⟩
  · obtain ⟨z, its, n, r, e⟩ := h.ok I.hok
    exact ⟨its, r, ⟨_, n, e, rfl, rfl, rfl⟩, z⟩
  · refine ⟨its.toList, r, ⟨o, n, I.kIn a o hk, hc, hd, by simpa using hs⟩, ?_⟩
    have e := r.length
    simp only [Array.length_toList] at e
    omega
theorem Inv.tuple (I : Inv X pins σ H s) (h : SqT X.K H a xs) : ∃ its : List Value, Vals xs its ∧ IsTup s.heap a its.toArray ∧ xs.length ≤ sizeLine := by
  rcases h with h | ⟨o, its, n, hk, hc, hs, hz, r⟩
  · obtain ⟨z, its, r, p⟩ := h.ok I.hok
    exact ⟨its, r, p, z⟩
  · refine ⟨its.toList, r, ⟨o, I.kIn a o hk, hc, n, by simpa using hs⟩, ?_⟩
    have e := r.length
    simp only [Array.length_toList] at e
    omega
theorem Inv.list_inj (I : Inv X pins σ H s) (h : SqL X.K H a xs) (h' : SqL X.K H a ys) : xs = ys := by
  obtain ⟨its, r, ⟨o, n, e, _, _, d⟩, _⟩ := I.list h
  obtain ⟨its', r', ⟨o', n', e', _, _, d'⟩, _⟩ := I.list h'
  rw [e] at e'; cases e'
  rw [d] at d'
  injection d' with d1 _
  have : its = its' := by simpa using congrArg Array.toList d1
  subst this
  exact r.inj r'
theorem Inv.tuple_inj (I : Inv X pins σ H s) (h : SqT X.K H a xs) (h' : SqT X.K H a ys) : xs = ys := by
  obtain ⟨its, r, ⟨o, e, _, n, d⟩, _⟩ := I.tuple h
  obtain ⟨its', r', ⟨o', e', _, n', d'⟩, _⟩ := I.tuple h'
  rw [e] at e'; cases e'
  rw [d] at d'
  injection d' with d1 _
  have : its = its' := by simpa using congrArg Array.toList d1
  subst this
  exact r.inj r'
end
abbrev Cx.wish (X : Cx) (E : Value → Shared → Prop) : Cx := { X with xe := E }
abbrev Cx.nox (X : Cx) : Cx := X.wish fun _ _ => False
theorem Cx.Ok.wish {X : Cx} (ok : X.Ok) (E : Value → Shared → Prop) : (X.wish E).Ok :=
  ⟨ok.mod, ok.kind, ok.glob, ok.blt, ok.above, ok.inj, ok.has, ok.cab, ok.hd, ok.frames, ok.stk, ok.exf, ok.bs, ok.bsz, ok.noex, ok.exfs, ok.funs, ok.frf⟩
theorem Cx.Ok.unwish {X : Cx} {E : Value → Shared → Prop} (ok : (X.wish E).Ok) : X.Ok :=
  ⟨ok.mod, ok.kind, ok.glob, ok.blt, ok.above, ok.inj, ok.has, ok.cab, ok.hd, ok.frames, ok.stk, ok.exf, ok.bs, ok.bsz, ok.noex, ok.exfs, ok.funs, ok.frf⟩
section
variable {X : Cx} {pins : List (Addr × Obj)} {σ : St} {H : Hp} {s : Shared} {E : Value → Shared → Prop}
theorem Inv.wish (I : Inv X pins σ H s) (E : Value → Shared → Prop) : Inv (X.wish E) pins σ H s := ⟨I.ok.wish E, I.os, I.bare, I.base, I.loc, I.cell, I.free, I.freeC, I.pin, I.hok, I.len⟩
theorem Inv.unwish (I : Inv (X.wish E) pins σ H s) : Inv X pins σ H s := ⟨I.ok.unwish, I.os, I.bare, I.base, I.loc, I.cell, I.free, I.freeC, I.pin, I.hok, I.len⟩
theorem SP.unwish {D : Ends} {f : Flow} {s' : Shared} (h : SP (X.wish E) pins D f s') : SP X pins D f s' := by
  cases f with
  | next => obtain ⟨σ', H', I, q⟩ := h; exact ⟨σ', H', I.unwish, q⟩
  | brk => obtain ⟨σ', H', I, q⟩ := h; exact ⟨σ', H', I.unwish, q⟩
  | cont => obtain ⟨σ', H', I, q⟩ := h; exact ⟨σ', H', I.unwish, q⟩
  | ret u => obtain ⟨v, σ', H', I, r, q⟩ := h; exact ⟨v, σ', H', I.unwish, r, q⟩
theorem PSs.nox {st : List Stmt} {t : TS} (h : PSs X.nox st t) : PSs X st t := fun pins s σ H D I hw =>
  wpAny_mono (h pins s σ H D (I.wish _) hw) (fun _ _ q => q.unwish) fun _ _ z => False.elim z
end
section
variable {X : Cx} {st : Stmt} {rest : List Stmt} {t u : TS} {e : Expr} {te : TE} {pos : Pos}
def tNext : TS := fun D σ H => D.nx σ H
def tSeq (t u : TS) : TS := fun D σ H => t { D with nx := u D } σ H
theorem pss_nil : PSs X [] tNext := fun _ _ σ H _ I h => wpAny_execs_nil ⟨σ, H, I, h⟩
theorem pss_cons (h1 : PS X st t) (h2 : PSs X rest u) : PSs X (st :: rest) (tSeq t u) := by
  intro pins s σ H D I h
  refine wpAny_execs_cons (thn (h1 pins s σ H { D with nx := u D } I h) fun f s1 q => ?_)
  cases f with
  | next =>
    obtain ⟨σ', H', I', q⟩ := q
    exact h2 pins s1 σ' H' D I' q
  | ret v => exact q
  | brk => exact q
  | cont => exact q
theorem pss_one (h1 : PS X st t) : PSs X [st] t := by
  intro pins s σ H D I h
  refine wpAny_execs_cons (thn (h1 pins s σ H D I h) fun f s1 q => ?_)
  cases f with
  | next => exact wpAny_execs_nil q
  | ret v => exact q
  | brk => exact q
  | cont => exact q
theorem Inv.quiet {pins : List (Addr × Obj)} {σ : St} {H : Hp} {s : Shared} (I : Inv X pins σ H s) : interactive X.env = false := by simp [interactive, I.ok.kind]
def tDrop (te : TE) : TS := fun D σ H => te σ H fun _ H1 => D.nx σ H1
theorem ps_expr (he : PE X e te) (hs : swapsWith e none pos.line X.env = pure false := by rfl) : PS X (.Expr e pos) (tDrop te) := by
  intro pins s σ H D I h
  refine wpAny_Expr_any (thn (he pins s σ H _ I h) fun v s1 hm0 => ?_) I.quiet hs
  obtain ⟨x, H1, I1, r1, q1⟩ := hm0
  exact ⟨σ, H1, I1, q1⟩
def tRet (te : TE) : TS := fun D σ H => te σ H D.rt
theorem ps_ret (he : PE X e te) : PS X (.Return (some e) pos) (tRet te) := by
  intro pins s σ H D I h
  refine wpAny_Return_some (thn (he pins s σ H _ I h) fun v s1 hm0 => ?_)
  obtain ⟨x, H1, I1, r1, q1⟩ := hm0
  exact ⟨x, σ, H1, I1, r1, q1⟩
def tIfS (c : TT) (t u : TS) : TS := fun D σ H => c σ H fun b H1 => if b = true then t D σ H1 else u D σ H1
theorem ps_if {c : Expr} {a b : List Stmt} {tc : TT} (hc : PT X c tc) (ha : PSs X a t) (hb : PSs X b u) : PS X (.If c a b pos) (tIfS tc t u) := by
  intro pins s σ H D I h
  refine wpAny_If (thn (hc pins s σ H _ I h) fun d s1 hm0 => ?_)
  obtain ⟨H1, I1, q1⟩ := hm0
  cases d with
  | true => exact ha pins s1 σ H1 D I1 q1
  | false => exact hb pins s1 σ H1 D I1 q1
end
abbrev TG := V → St → Hp → (St → Hp → Prop) → Prop
abbrev TGs := List V → St → Hp → (St → Hp → Prop) → Prop
def PG (X : Cx) (target : Expr) (t : TG) : Prop :=
  ∀ (pins : List (Addr × Obj)) (s : Shared) (σ : St) (H : Hp) (v : V) (u : Value) (Q : St → Hp → Prop), Inv X pins σ H s → RelV v u → t v σ H Q →
    wpAny (model X.prog X.w) X.A (assign target X.env u) (fun _ s' => ∃ σ' H', Inv X pins σ' H' s' ∧ Q σ' H') X.xe s
def PGs (X : Cx) (ts : List Expr) (t : TGs) : Prop :=
  ∀ (pins : List (Addr × Obj)) (s : Shared) (σ : St) (H : Hp) (vs : List V) (us : List Value) (Q : St → Hp → Prop), Inv X pins σ H s → Vals vs us → t vs σ H Q →
    wpAny (model X.prog X.w) X.A (assignInOrder ((assignEach ts X.env).map (·.2)) us) (fun _ s' => ∃ σ' H', Inv X pins σ' H' s' ∧ Q σ' H') X.xe s
abbrev TSet := V → V → V → Hp → (Hp → Prop) → Prop
def PSet (X : Cx) (t : TSet) : Prop :=
  ∀ (pins : List (Addr × Obj)) (s : Shared) (σ : St) (H : Hp) (o i v : V) (ov iv u : Value) (Q : Hp → Prop), Inv X pins σ H s → RelV o ov → RelV i iv → RelV v u → t o i v H Q →
    wpAny (model X.prog X.w) X.A (setItem ov iv u) (fun _ s' => ∃ H', Inv X pins σ H' s' ∧ Q H') X.xe s
section
variable {X : Cx} {pos : Pos}
def gName (i : Nat) : TG := fun v σ H Q => Q (σ.set i (some v)) H
theorem pg_name {i : Nat} {x : Str} (hN : X.N.Nodup) (hi : X.N[i]? = some x) (hx : Loc X.env.scope x) (hf : X.fn x = true ∨ X.env.scope.names.lookup x = some .local := by first | exact .inl rfl | exact .inr rfl | assumption) : PG X (.Name x pos) (gName i) := by
  intro pins s σ H v u Q I r h
  exact wpAny_assign_Name (store_ok I hN hi hx r (fun s' I' => ⟨_, H, I', h⟩) hf)
def gNil : TGs := fun vs σ H Q => vs = [] ∧ Q σ H
def gCons (t : TG) (u : TGs) : TGs := fun vs σ H Q => ∃ v r, vs = v :: r ∧ t v σ H fun σ' H' => u r σ' H' Q
theorem pgs_nil : PGs X [] gNil := by
  intro pins s σ H vs us Q I r h
  obtain ⟨e, h⟩ := h
  subst e
  cases r
  exact assignInOrder_nil ⟨σ, H, I, h⟩
theorem pgs_cons {e : Expr} {es : List Expr} {t : TG} {u : TGs} (h1 : PG X e t) (h2 : PGs X es u)
    (hs : (assignEach (e :: es) X.env).map (·.2) = assign e X.env :: (assignEach es X.env).map (·.2) := by rfl) : PGs X (e :: es) (gCons t u) := by
  intro pins s σ H vs us Q I r h
  obtain ⟨v, vr, e1, h⟩ := h
  subst e1
  cases r with
  | cons r rr =>
    rw [hs]
    refine assignInOrder_cons (thn (h1 pins s σ H _ _ _ I r h) fun _ s1 hm0 => ?_)
    obtain ⟨σ1, H1, I1, q1⟩ := hm0
    exact h2 pins s1 σ1 H1 _ _ Q I1 rr q1
def gTup (K : PySem.W.Frag) (n : Nat) (t : TGs) : TG := fun v σ H Q => ∃ a xs, v = .ref a ∧ SqT K H a xs ∧ xs.length = n ∧ t xs σ H Q
theorem pg_tup {es : List Expr} {k : Nat} {t : TGs} {n : Nat} (hc : X.calm = true) (h : PGs X es t)
    (hn : (assignEach es X.env).length = n := by rfl) (hst : (assignEach es X.env).findIdx? (·.1) = none := by rfl) : PG X (.Tuple es k pos) (gTup X.K n t) := by
  intro pins s σ H v u Q I r hw
  obtain ⟨a, xs, e1, hq, hl, hw⟩ := hw
  subst e1
  cases r
  obtain ⟨its, rv, ht, hz⟩ := I.tuple hq
  refine assign_Tuple_tuple (I.ok.hd hc) ht (by simp [hn, ← hl, rv.length]) hst fun h' hx => ?_
  have I1 : Inv X pins σ H { s with heap := h' } := I.kept (t' := s.toks) fun b o e => hx b o (Nat.ne_of_lt (Heap.lt_size e)) e
  exact h pins _ σ H xs _ Q I1 (by simpa using rv) hw
def gSub (to ti : TE) (t : TSet) : TG := fun v σ H Q => to σ H fun o H1 => ti σ H1 fun i H2 => t o i v H2 fun H3 => Q σ H3
theorem pg_sub {o i : Expr} {to ti : TE} {t : TSet} (ho : PE X o to) (hi : PE X i ti) (hs : PSet X t)
    (ha : ∀ v, assign (.Subscript o i pos) X.env v = (do
      let ov ← holding [v] (eval o X.env)
      let iv ← holding [v, ov] (eval i X.env)
      standAt pos
      holding [v, ov, iv] (setItem ov iv v)
      release [v, ov, iv] []) := by intro _; rfl) : PG X (.Subscript o i pos) (gSub to ti t) := by
  intro pins s σ H v u Q I r h
  rw [ha]
  refine wpAny_bind (wpAny_holding (thn (ho pins s σ H _ I h) fun ov s1 hm0 => ?_))
  obtain ⟨x, H1, I1, r1, q1⟩ := hm0
  refine wpAny_bind (wpAny_holding (thn (hi pins s1 σ H1 _ I1 q1) fun iv s2 hm0 => ?_))
  obtain ⟨y, H2, I2, r2, q2⟩ := hm0
  refine wpAny_bind (wpAny_standAt (wpAny_bind (wpAny_holding (thn (hs pins s2 σ H2 x y v ov iv u _ I2 r1 r2 r q2) fun _ s3 hm0 => ?_))))
  obtain ⟨H3, I3, q3⟩ := hm0
  exact wpAny_release ⟨σ, H3, I3, q3⟩
def tAsg (te : TE) (g : TG) : TS := fun D σ H => te σ H fun x H1 => g x σ H1 D.nx
theorem ps_asg {tg e : Expr} {te : TE} {g : TG} (he : PE X e te) (hg : PG X tg g) (hs : swapsWithSole [tg] e pos.line X.env = pure false := by rfl) (hw : swappedStores [tg] e X.env = pure none := by rfl)
    (h1 : (assignEach [tg] X.env).map (·.2) = [assign tg X.env] := by rfl) : PS X (.Assign [tg] e pos) (tAsg te g) := by
  intro pins s σ H D I h
  refine wpAny_Assign_stores (thn (he pins s σ H _ I h) fun v s1 hm0 => ?_) hs hw
  obtain ⟨x, H1, I1, r1, q1⟩ := hm0
  rw [h1]
  exact thn (hg pins s1 σ H1 x v _ I1 r1 q1) fun _ s2 q => q
theorem ps_set {i : Nat} {x : Str} {e : Expr} {te : TE} {pos' : Pos} (hN : X.N.Nodup) (hi : X.N[i]? = some x) (hx : Loc X.env.scope x) (he : PE X e te) (hs : swapsWith e (some (.Name x pos')) pos.line X.env = pure false := by rfl) (hf : X.fn x = true ∨ X.env.scope.names.lookup x = some .local := by first | exact .inl rfl | exact .inr rfl | assumption) :
    PS X (.Assign [.Name x pos'] e pos) (tAsg te (gName i)) := by
  intro pins s σ H D I h
  refine wpAny_Assign_Name (thn (he pins s σ H _ I h) fun v s1 hm0 => ?_) hs
  obtain ⟨y, H1, I1, r1, q1⟩ := hm0
  exact store_ok I1 hN hi hx r1 (fun s2 I2 => ⟨_, H1, I2, q1⟩) hf
end
section
variable {X : Cx} {pos : Pos}
def tWhile (c : TT) (tb : TS) : TS := fun D σ H => ∃ W : Nat → St → Hp → Prop, (∃ m, W m σ H) ∧ ∀ m σ H, W m σ H →
  c σ H fun b H1 => if b = true then ∃ N : St → Hp → Prop, (∀ σ' H', N σ' H' → ∃ m', m' < m ∧ W m' σ' H') ∧ tb { D with nx := N, ct := N, bk := D.nx } σ H1 else D.nx σ H1
theorem ps_while {c : Expr} {body : List Stmt} {tc : TT} {tb : TS} (hp : PassesOwn (model X.prog X.w) X.A X.env X.xe) (hc : PT X c tc) (hb : PSs X body tb) : PS X (.While c body [] pos) (tWhile tc tb) := by
  intro pins s σ H D I h
  obtain ⟨W, ⟨m0, w0⟩, turn⟩ := h
  refine wpAny_While (codeAny_whileLoop (fun n s' => ∃ σ' H', Inv X pins σ' H' s' ∧ W n σ' H') ?_ m0 ⟨σ, H, I, w0⟩)
  rintro n s1 ⟨σ1, H1, I1, w1⟩
  refine wpAny_passesOwn hp (thn (hc pins s1 σ1 H1 _ I1 (turn n σ1 H1 w1)) fun b s2 hm0 => ?_)
  obtain ⟨H2, I2, q2⟩ := hm0
  cases b with
  | true =>
    obtain ⟨N, hN, q2⟩ := q2
    rw [if_pos rfl]
    refine wpAny_passesOwn hp (thn (hb pins s2 σ1 H2 _ I2 q2) fun f s3 q3 => ?_)
    cases f with
    | next =>
      obtain ⟨σ3, H3, I3, n3⟩ := q3
      obtain ⟨m', hm, w3⟩ := hN σ3 H3 n3
      exact ⟨m', hm, σ3, H3, I3, w3⟩
    | cont =>
      obtain ⟨σ3, H3, I3, n3⟩ := q3
      obtain ⟨m', hm, w3⟩ := hN σ3 H3 n3
      exact ⟨m', hm, σ3, H3, I3, w3⟩
    | brk => exact q3
    | ret v => exact q3
  | false =>
    rw [if_neg Bool.false_ne_true]
    exact wpAny_execs_nil ⟨σ1, H2, I2, q2⟩
end
structure It where
  go : Nat → Hp → Prop
  yld : Nat → Hp → V → Hp → Prop
  stop : Nat → Hp → Prop
def FpOk (X : Cx) (pins : List (Addr × Obj)) (H : Hp) (b : Addr) : Prop :=
  H b = none ∧ b ≠ X.env.locals ∧ b ∉ X.fs ∧ (b ∈ X.ex ∨ X.s₀.heap.objs.size ≤ b) ∧ (∀ x c, X.env.cells.lookup x = some c → c ≠ b) ∧ ∀ p ∈ X.pn ++ pins, p.1 ≠ b
theorem Inv.fpOk {X : Cx} {pins : List (Addr × Obj)} {σ : St} {H H' : Hp} {s : Shared} {b : Addr} (I : Inv X pins σ H s) (hb : s.heap.objs.size ≤ b) (hn : H' b = none) : FpOk X pins H' b := by
  refine ⟨hn, Nat.ne_of_gt (Nat.lt_of_lt_of_le I.lt hb), I.nofs hb, .inr (Nat.le_trans I.sz hb), fun x c e z => ?_, fun p hp z => ?_⟩
  · obtain ⟨v, q⟩ := I.cell x c e
    exact absurd (Nat.lt_of_lt_of_le q.lt (by rw [z]; exact hb)) (Nat.lt_irrefl _)
  · exact absurd (Nat.lt_of_lt_of_le (Heap.lt_size (I.pin p hp).1) (by rw [z]; exact hb)) (Nat.lt_irrefl _)
structure Turn (P : Program) (w : World) (K : PySem.W.Frag) (tg : Expr) (J : It) (fp : List Addr) (it : Addr) (tn : Nat → Heap → Prop) : Prop where
  mem : it ∈ fp
  obj : ∀ i h, tn i h → ∀ b ∈ fp, ∃ o, h.get? b = some o ∧ ∀ v, o.data ≠ .cell v
  keep : ∀ i h h', tn i h → (∀ b ∈ fp, ∀ o, h.get? b = some o → h'.get? b = some o) → tn i h'
  item : ∀ (X : Cx), X.prog = P → X.w = w → X.K = K → X.calm = true → ∀ (i : Nat) (pins : List (Addr × Obj)) (s : Shared) (σ : St) (H : Hp) (E : Value → Shared → Prop), Inv X pins σ H s → (∀ b ∈ fp, FpOk X pins H b) → tn i s.heap → J.go i H →
    wpAny (model P w) X.A (pyNext (.ref it)) (fun r s1 => ∃ u, r = some u ∧
      wpAny (model P w) X.A (letOwnedTupleGo tg (.ref it) u) (fun _ s2 => ∃ x H', Inv X pins σ H' s2 ∧ RelV x u ∧ J.yld i H x H' ∧ tn (i + 1) s2.heap ∧ ∀ b ∈ fp, H' b = none) E s1) E s
  done : ∀ (X : Cx), X.prog = P → X.w = w → X.K = K → X.calm = true → ∀ (i : Nat) (pins : List (Addr × Obj)) (s : Shared) (σ : St) (H : Hp) (E : Value → Shared → Prop), Inv X pins σ H s → (∀ b ∈ fp, FpOk X pins H b) → tn i s.heap → J.stop i H →
    wpAny (model P w) X.A (pyNext (.ref it)) (fun r s1 => r = none ∧ Inv X pins σ H s1) E s
  self : ∀ (A : Around) (i : Nat) (s : Shared) (Q : Value → Shared → Prop) (E : Value → Shared → Prop), tn i s.heap → Q (.ref it) s → wpAny (model P w) A (pyIter (.ref it)) Q E s
abbrev TI := St → Hp → (It → Hp → Prop) → Prop
def PIE (X : Cx) (pins : List (Addr × Obj)) (σ : St) (tg : Expr) (R : It → Hp → Prop) (itv : Value) (s2 : Shared) : Prop :=
  ∃ (it : Addr) (fp : List Addr) (tn : Nat → Heap → Prop) (J : It) (H' : Hp), itv = .ref it ∧ Inv X pins σ H' s2 ∧ Turn X.prog X.w X.K tg J fp it tn ∧ tn 0 s2.heap ∧ (∀ b ∈ fp, FpOk X pins H' b) ∧ R J H'
def PI (X : Cx) (tg iter : Expr) (wi : TI) : Prop :=
  ∀ (pins : List (Addr × Obj)) (s : Shared) (σ : St) (H : Hp) (R : It → Hp → Prop), Inv X pins σ H s → wi σ H R →
    wpAny (model X.prog X.w) X.A (eval iter X.env) (fun v s1 => wpAny (model X.prog X.w) X.A (pyIter v) (PIE X pins σ tg R) X.xe s1) X.xe s
theorem go_of {M : Model} {A : Around} {E : Value → Shared → Prop} {s : Shared} {tg : Expr} {it : Addr} {u : Value} {o : Obj} {n : String} {vs : Array Value} {Q : Unit → Shared → Prop} (ho : s.heap.get? it = some o) (hc : o.cls = .type n) (hd : o.data = .fields vs)
    (hn : ["enumerate", "zip", "dict_itemiterator", "dict_reverseitemiterator", "odict_iterator", "itertools.zip_longest", "itertools.pairwise"].contains n = false) (hQ : Q () s) : wpAny M A (letOwnedTupleGo tg (.ref it) u) Q E s := by
  unfold letOwnedTupleGo
  cases tg <;> first
    | exact wpAny_pure hQ
    | (cases u <;> first
        | exact wpAny_pure hQ
        | (refine wpAny_bind (wpAny_load ho ?_)
           rw [hc, hd]
           show wpAny M A (if (["enumerate", "zip", "dict_itemiterator", "dict_reverseitemiterator", "odict_iterator", "itertools.zip_longest", "itertools.pairwise"].contains n && vs[0]? == some (rawInt _)) = true then _ else _) Q E s
           rw [if_neg (by intro h; rw [hn, Bool.false_and] at h; cases h)]
           exact wpAny_pure hQ))
def Itl (K : PySem.W.Frag) (a : Addr) : It :=
  ⟨fun i H => ∃ xs x, SqL K H a xs ∧ xs[i]? = some x, fun i H x H' => H' = H ∧ ∀ xs, SqL K H a xs → xs[i]? = some x, fun i H => ∃ xs, SqL K H a xs ∧ xs.length ≤ i⟩
def Itr (lo : Int) (n : Nat) : It := ⟨fun i _ => i < n, fun i H x H' => H' = H ∧ x = .int (lo + i), fun i _ => n ≤ i⟩
theorem turn_list {P : Program} {w : World} {K : PySem.W.Frag} {tg : Expr} (a it : Addr) : Turn P w K tg (Itl K a) [it] it (fun i h => h.IsListIter it a i) where
  mem := by simp
  obj := fun i h st b hb => by
    have e : b = it := by simpa using hb
    subst e
    obtain ⟨o, e, c, d⟩ := st
    exact ⟨o, e, fun v z => by rw [d] at z; cases z⟩
  keep := fun i h h' st k => st.at fun o e => k it (by simp) o e
  item := by
    intro X hP hw hK hc i pins s σ H E I hf st hg
    subst hP hw hK
    obtain ⟨xs, x, hq, hx⟩ := hg
    obtain ⟨its, rv, p, hz⟩ := I.list hq
    obtain ⟨u, hu, ru⟩ := rv.get hx
    obtain ⟨f0, f1, f2, f3, f4, f5⟩ := hf it (by simp)
    refine wpAny_pyNext_list_item st p.isList (x := u) (by simpa using hu) fun h' st' sb => ?_
    have I1 : Inv X pins σ H { s with heap := h' } := I.turned (t' := s.toks) (fun b o hb e => (sb.2 b hb).trans e) f0 f1 f3 f4 f5
    obtain ⟨o, e, c, d⟩ := id st'
    exact ⟨u, rfl, go_of (s := { s with heap := h' }) e c d (by decide) ⟨x, H, I1, ru, ⟨rfl, fun ys hy => by rw [I.list_inj hy hq]; exact hx⟩, st', fun b hb => (hf b hb).1⟩⟩
  done := by
    intro X hP hw hK hc i pins s σ H E I hf st hg
    subst hP hw hK
    obtain ⟨xs, hq, hx⟩ := hg
    obtain ⟨its, rv, p, hz⟩ := I.list hq
    obtain ⟨f0, f1, f2, f3, f4, f5⟩ := hf it (by simp)
    have hl := rv.length
    exact wpAny_pyNext_list_end (I.ok.hd hc) st p.isList (by simp; omega) fun h' eb => ⟨rfl, I.turned (t' := s.toks) (fun b o hb e => eb b o hb e) f0 f1 f3 f4 f5⟩
  self := fun _ _ _ _ _ st h => wpAny_pyIter_listiter st h
theorem turn_range {P : Program} {w : World} {K : PySem.W.Frag} {tg : Expr} (it : Addr) (lo : Int) (n : Nat) : Turn P w K tg (Itr lo n) [it] it (fun i h => IsRangeIter h it (lo + (i : Nat) * 1) ((n : Int) - (i : Nat)) 1) where
  mem := by simp
  obj := fun i h st b hb => by
    have e : b = it := by simpa using hb
    subst e
    exact ⟨_, st, fun v z => by
      have z' : Data.fields _ = Data.cell v := z
      cases z'⟩
  keep := fun i h h' st k => k it (by simp) _ st
  item := by
    intro X hP hw hK hc i pins s σ H E I hf st hg
    subst hP hw hK
    obtain ⟨f0, f1, f2, f3, f4, f5⟩ := hf it (by simp)
    have W := Walks.range (prog := X.prog) (w := X.w) (I.ok.hd hc) it lo 1 n
    refine W.item i s _ _ hg st fun v h' tk hv st' kk => ?_
    obtain ⟨t, rfl⟩ := hv
    have I1 : Inv X pins σ H { s with heap := h', toks := tk } := I.turned (fun b o hb e => kk b o (by simpa using hb) e) f0 f1 f3 f4 f5
    refine ⟨_, rfl, go_of (s := { s with heap := h', toks := tk }) (n := "range_iterator") st' rfl rfl (by decide) ⟨.int (lo + i), H, I1, ⟨t, ?_⟩, ⟨rfl, rfl⟩, st', fun b hb => (hf b hb).1⟩⟩
    rw [Int.mul_one]
  done := by
    intro X hP hw hK hc i pins s σ H E I hf st hg
    subst hP hw hK
    obtain ⟨f0, f1, f2, f3, f4, f5⟩ := hf it (by simp)
    exact wpAny_pyNext_range_end (I.ok.hd hc) st (by have : n ≤ i := hg; omega) fun h' eb => ⟨rfl, I.turned (t' := s.toks) (fun b o hb e => eb b o hb e) f0 f1 f3 f4 f5⟩
  self := fun _ _ _ _ _ st h => wpAny_pyIter_rangeiter st h
end L2
namespace L2
open PySem PySem.Spec PyProof.Rows
section
variable {X : Cx} {tg : Expr}
def iList (K : PySem.W.Frag) (tl : TE) : TI := fun σ H R => tl σ H fun x H1 => ∃ a, x = .ref a ∧ (∃ xs, SqL K H1 a xs) ∧ R (Itl K a) H1
theorem pi_list {l : Expr} {tl : TE} (hl : PE X l tl) : PI X tg l (iList X.K tl) := by
  intro pins s σ H R I h
  refine thn (hl pins s σ H _ I h) fun v s1 hm0 => ?_
  obtain ⟨x, H1, I1, r1, q1⟩ := hm0
  obtain ⟨a, e, ⟨xs, hq⟩, q⟩ := q1
  subst e
  cases r1
  obtain ⟨its, rv, p, hz⟩ := I1.list hq
  refine wpAny_pyIter_list p.isList ?_
  refine ⟨s1.heap.objs.size, [s1.heap.objs.size], _, _, H1, rfl, I1.kept (t' := s1.toks) fun b o e => Heap.get?_push_of_some _ e, turn_list a _, ⟨_, Heap.get?_push_size _ rfl, rfl, rfl⟩, fun b hb => ?_, q⟩
  have e : b = s1.heap.objs.size := by simpa using hb
  subst e
  exact I1.fpOk (Nat.le_refl _) (I1.hok.fresh (Nat.le_refl _))
theorem range_it {pins : List (Addr × Obj)} {σ : St} {H : Hp} {s : Shared} {R : It → Hp → Prop} {E : Value → Shared → Prop} {lo hi : Int} {t u v : Tok} {tk : Nat} (I : Inv X pins σ H s) (h1 : -(2 ^ 62) ≤ lo) (h2 : lo < 2 ^ 62) (h3 : -(2 ^ 62) ≤ hi) (h4 : hi < 2 ^ 62)
    (q : R (Itr lo (hi - lo).toNat) H) : wpAny (model X.prog X.w) X.A (pyIter (.ref s.heap.objs.size)) (PIE X pins σ tg R) E { s with heap := s.heap.push { cls := .type "range", data := .fields #[.int lo t, .int hi u, .int 1 v] }, toks := tk } := by
  refine wpAny_pyIter_range (IsRange.new ..) (small_one h1 h2 h3 h4) ?_
  have I1 : Inv X pins σ H { s with heap := s.heap.push { cls := .type "range", data := .fields #[.int lo t, .int hi u, .int 1 v] }, toks := tk } := I.kept fun b o e => Heap.get?_push_of_some _ e
  refine ⟨(s.heap.push { cls := .type "range", data := .fields #[.int lo t, .int hi u, .int 1 v] }).objs.size, [(s.heap.push { cls := .type "range", data := .fields #[.int lo t, .int hi u, .int 1 v] }).objs.size], _, _, H, rfl,
    I1.kept (t' := tk) fun b o e => Heap.get?_push_of_some _ e, turn_range _ lo (hi - lo).toNat, ?_, fun b hb => ?_, q⟩
  · have e1 : lo + ((0 : Nat) : Int) * 1 = lo := by simp
    have e2 : (((hi - lo).toNat : Nat) : Int) - ((0 : Nat) : Int) = Builtin.Range.rangeSize lo hi 1 := by rw [rangeSize_one]; split <;> omega
    show IsRangeIter _ _ (lo + ((0 : Nat) : Int) * 1) ((((hi - lo).toNat : Nat) : Int) - ((0 : Nat) : Int)) 1
    rw [e1, e2]
    exact Heap.get?_push_size _ rfl
  · have e : b = (s.heap.push { cls := .type "range", data := .fields #[.int lo t, .int hi u, .int 1 v] }).objs.size := by simpa using hb
    subst e
    exact I1.fpOk (Nat.le_refl _) (I1.hok.fresh (Nat.le_refl _))
def iRng1 (ta : TA) : TI := fun σ H R => ta σ H fun vs H1 => ∃ j : Int, vs = [.int j] ∧ -(2 ^ 62) ≤ j ∧ j < 2 ^ 62 ∧ R (Itr 0 j.toNat) H1
theorem pi_range1 {a : Expr} {ta : TA} {p pos : Pos} (hg : Gl X "range") (hm : X.mg "range" = none) (ha : PA X [a] ta) (hs : starEach [a] X.env = [(false, eval a X.env)] := by rfl) : PI X tg (.Call (.Name "range" p) [a] [] pos) (iRng1 ta) := by
  intro pins s σ H R I h
  refine Call_ (ld_blt I hg hm boot_range (PyProof.Rows.callWith_type1 (thn (ha pos pins s σ H _ I h) fun us s1 hm0 => ?_) hs rfl))
  obtain ⟨vs, H1, I1, r1, q1⟩ := hm0
  obtain ⟨j, e, q1, q2, q⟩ := q1
  subst e
  cases r1 with
  | cons r rr =>
    cases rr
    obtain ⟨t, rfl⟩ := r
    exact call_range_1 (range_it I1 (by omega) (by omega) q1 q2 (by simpa using q))
def tFor (wi : TI) (g : TG) (tb : TS) : TS := fun D σ H => wi σ H fun J H1 => ∃ W : Nat → Nat → St → Hp → Prop, (∃ m, W 0 m σ H1) ∧ ∀ i m σ H, W i m σ H →
  (J.stop i H ∧ D.nx σ H) ∨ (J.go i H ∧ ∃ N : St → Hp → Prop, (∀ σ' H', N σ' H' → ∃ m', m' < m ∧ W (i + 1) m' σ' H') ∧ ∀ x H', J.yld i H x H' → g x σ H' fun σ2 H2 => tb { D with nx := N, ct := N, bk := D.nx } σ2 H2)
def pinsAt (fp : List Addr) (h : Heap) : List (Addr × Obj) := fp.filterMap fun b => (h.get? b).map fun o => (b, o)
theorem mem_pinsAt {fp : List Addr} {h : Heap} {b : Addr} {o : Obj} (hb : b ∈ fp) (e : h.get? b = some o) : (b, o) ∈ pinsAt fp h := List.mem_filterMap.mpr ⟨b, hb, by rw [e]; rfl⟩
theorem of_pinsAt {fp : List Addr} {h : Heap} {p : Addr × Obj} (hp : p ∈ pinsAt fp h) : p.1 ∈ fp ∧ h.get? p.1 = some p.2 := by
  obtain ⟨b, hb, e⟩ := List.mem_filterMap.mp hp
  cases q : h.get? b with
  | none => rw [q] at e; cases e
  | some o =>
    rw [q] at e
    have e' : (b, o) = p := Option.some.inj e
    subst e'
    exact ⟨hb, q⟩
theorem Inv.pinned {pins : List (Addr × Obj)} {σ : St} {H : Hp} {s : Shared} {fp : List Addr} (I : Inv X pins σ H s) (hf : ∀ b ∈ fp, FpOk X pins H b) (ho : ∀ b ∈ fp, ∃ o, s.heap.get? b = some o ∧ ∀ v, o.data ≠ .cell v) : Inv X (pins ++ pinsAt fp s.heap) σ H s :=
  I.pins_of fun p hp => (List.mem_append.mp hp).elim (fun z => I.pin p (List.mem_append_right _ z)) fun z => by
    obtain ⟨hb, e⟩ := of_pinsAt z
    obtain ⟨f0, f1, f2, _⟩ := hf p.1 hb
    obtain ⟨o, e', d⟩ := ho p.1 hb
    rw [e] at e'; cases e'
    exact ⟨e, f0, f1, f2, d⟩
theorem Inv.unpinned {pins pl : List (Addr × Obj)} {σ : St} {H : Hp} {s : Shared} (I : Inv X (pins ++ pl) σ H s) : Inv X pins σ H s := I.pins_of fun p hp => I.pin p (List.mem_append_right _ (List.mem_append_left _ hp))
theorem ps_for {iter : Expr} {body : List Stmt} {wi : TI} {g : TG} {tb : TS} {pos : Pos} (hp : PassesOwn (model X.prog X.w) X.A X.env X.xe) (hc : X.calm = true) (hi : PI X tg iter wi) (hg : PG X tg g) (hb : PSs X body tb)
    (hs : ∀ x, foldedSetIterable iter X.env x = pure x := by intro _; rfl) : PS X (.For tg iter body [] pos) (tFor wi g tb) := by
  intro pins s σ H D I h
  refine wpAny_For (thn (hi pins s σ H _ I h) fun v s1 h1 => thn h1 fun itv s2 h2 => ?_) hs
  obtain ⟨it, fp, tn, J, H2, e, I2, T, st2, f2, W, ⟨m0, w0⟩, turn⟩ := h2
  subst e
  have stat : ∀ {H' : Hp}, (∀ b ∈ fp, H' b = none) → ∀ b ∈ fp, FpOk X pins H' b := fun hn b hb => ⟨hn b hb, (f2 b hb).2⟩
  refine codeAny_forLoop_any (fun n s' => ∃ i σ' H', Inv X pins σ' H' s' ∧ tn i s'.heap ∧ (∀ b ∈ fp, H' b = none) ∧ W i n σ' H') ?_ m0 ⟨0, σ, H2, I2, st2, fun b hb => (f2 b hb).1, w0⟩
  rintro n s3 ⟨i, σ3, H3, I3, st3, fr3, w3⟩
  rcases turn i n σ3 H3 w3 with ⟨stop, qn⟩ | ⟨go, N, hN, step⟩
  · refine wpAny_passesOwn hp (thn (T.done X rfl rfl rfl hc i pins s3 σ3 H3 X.xe I3 (stat fr3) st3 stop) fun r s4 hm0 => ?_)
    obtain ⟨hr, I4⟩ := hm0
    subst hr
    exact wpAny_execs_nil ⟨σ3, H3, I4, qn⟩
  · refine wpAny_passesOwn hp (thn (T.item X rfl rfl rfl hc i pins s3 σ3 H3 X.xe I3 (stat fr3) st3 go) fun r s4 hm0 => ?_)
    obtain ⟨u, hr, h4⟩ := hm0
    subst hr
    refine wpAny_passesOwn hp (thn h4 fun _ s5 hm0 => ?_)
    obtain ⟨x, H5, I5, r5, y5, st5, fr5⟩ := hm0
    have I5' := I5.pinned (stat fr5) (T.obj _ _ st5)
    refine wpAny_passesOwn hp (thn (hg _ s5 σ3 H5 x u _ I5' r5 (step x H5 y5)) fun _ s6 hm0 => ?_)
    obtain ⟨σ6, H6, I6, q6⟩ := hm0
    refine wpAny_passesOwn hp (thn (hb _ s6 σ6 H6 _ I6 q6) fun f s7 q7 => ?_)
    have again : ∀ {σ7 : St} {H7 : Hp}, Inv X (pins ++ pinsAt fp s5.heap) σ7 H7 s7 → N σ7 H7 → ∃ m, m < n ∧ ∃ i σ' H', Inv X pins σ' H' s7 ∧ tn i s7.heap ∧ (∀ b ∈ fp, H' b = none) ∧ W i m σ' H' := fun {σ7 H7} I7 n7 => by
      obtain ⟨m', hm, w7⟩ := hN σ7 H7 n7
      refine ⟨m', hm, i + 1, σ7, H7, I7.unpinned, T.keep _ _ _ st5 fun b hb o e => (I7.pin (b, o) (List.mem_append_right _ (List.mem_append_right _ (mem_pinsAt hb e)))).1, fun b hb => ?_, w7⟩
      obtain ⟨o, e, d⟩ := T.obj _ _ st5 b hb
      exact (I7.pin (b, o) (List.mem_append_right _ (List.mem_append_right _ (mem_pinsAt hb e)))).2.1
    cases f with
    | next => obtain ⟨σ7, H7, I7, n7⟩ := q7; exact again I7 n7
    | cont => obtain ⟨σ7, H7, I7, n7⟩ := q7; exact again I7 n7
    | brk => obtain ⟨σ7, H7, I7, q7⟩ := q7; exact ⟨σ7, H7, I7.unpinned, q7⟩
    | ret v => obtain ⟨x7, σ7, H7, I7, r7, q7⟩ := q7; exact ⟨x7, σ7, H7, I7.unpinned, r7, q7⟩
end
theorem for_list {K : PySem.W.Frag} {a : Addr} {xs : List V} {g : TG} {tb : TS} {D : Ends} {σ : St} {H : Hp} (Pv : Nat → St → Hp → Prop) (h0 : Pv 0 σ H) (hl : ∀ i σ H, i ≤ xs.length → Pv i σ H → SqL K H a xs)
    (hs : ∀ i x σ H, xs[i]? = some x → Pv i σ H → g x σ H fun σ2 H2 => tb { D with nx := Pv (i + 1), ct := Pv (i + 1), bk := D.nx } σ2 H2) (hd : ∀ σ H, Pv xs.length σ H → D.nx σ H) :
    ∃ W : Nat → Nat → St → Hp → Prop, (∃ m, W 0 m σ H) ∧ ∀ i m σ H, W i m σ H →
      ((Itl K a).stop i H ∧ D.nx σ H) ∨ ((Itl K a).go i H ∧ ∃ N : St → Hp → Prop, (∀ σ' H', N σ' H' → ∃ m', m' < m ∧ W (i + 1) m' σ' H') ∧ ∀ x H', (Itl K a).yld i H x H' → g x σ H' fun σ2 H2 => tb { D with nx := N, ct := N, bk := D.nx } σ2 H2) := by
  refine ⟨fun i m σ H => m = xs.length - i ∧ i ≤ xs.length ∧ Pv i σ H, ⟨xs.length, by simp, Nat.zero_le _, h0⟩, ?_⟩
  rintro i m σ H ⟨rfl, hi, p⟩
  have q := hl i σ H hi p
  by_cases hlt : i < xs.length
  · refine .inr ⟨⟨xs, xs[i], q, by simp [hlt]⟩, Pv (i + 1), fun σ' H' p' => ⟨xs.length - (i + 1), by omega, rfl, hlt, p'⟩, fun x H' y => ?_⟩
    obtain ⟨e, y⟩ := y
    subst e
    exact hs i x σ _ (y xs q) p
  · have e : i = xs.length := by omega
    subst e
    exact .inl ⟨⟨xs, q, Nat.le_refl _⟩, hd σ H p⟩
theorem for_range {lo : Int} {n : Nat} {g : TG} {tb : TS} {D : Ends} {σ : St} {H : Hp} (Pv : Nat → St → Hp → Prop) (h0 : Pv 0 σ H)
    (hs : ∀ i σ H, i < n → Pv i σ H → g (.int (lo + i)) σ H fun σ2 H2 => tb { D with nx := Pv (i + 1), ct := Pv (i + 1), bk := D.nx } σ2 H2) (hd : ∀ σ H, Pv n σ H → D.nx σ H) :
    ∃ W : Nat → Nat → St → Hp → Prop, (∃ m, W 0 m σ H) ∧ ∀ i m σ H, W i m σ H →
      ((Itr lo n).stop i H ∧ D.nx σ H) ∨ ((Itr lo n).go i H ∧ ∃ N : St → Hp → Prop, (∀ σ' H', N σ' H' → ∃ m', m' < m ∧ W (i + 1) m' σ' H') ∧ ∀ x H', (Itr lo n).yld i H x H' → g x σ H' fun σ2 H2 => tb { D with nx := N, ct := N, bk := D.nx } σ2 H2) := by
  refine ⟨fun i m σ H => m = n - i ∧ i ≤ n ∧ Pv i σ H, ⟨n, by simp, Nat.zero_le _, h0⟩, ?_⟩
  rintro i m σ H ⟨rfl, hi, p⟩
  by_cases hlt : i < n
  · refine .inr ⟨hlt, Pv (i + 1), fun σ' H' p' => ⟨n - (i + 1), by omega, rfl, hlt, p'⟩, fun x H' y => ?_⟩
    obtain ⟨e, y⟩ := y
    subst e y
    exact hs i σ _ hlt p
  · have e : i = n := by omega
    subst e
    exact .inl ⟨Nat.le_refl _, hd σ H p⟩
end L2
namespace L2
open PySem PySem.Spec PyProof.Rows
abbrev R2 := V → V → Hp → VK → Prop
def OpR (X : Cx) (f : Value → Value → Sem Value) (r : R2) : Prop :=
  ∀ (pins : List (Addr × Obj)) (s : Shared) (σ : St) (H : Hp) (x y : V) (v u : Value) (Q : VK), Inv X pins σ H s → RelV x v → RelV y u → r x y H Q →
    wpAny (model X.prog X.w) X.A (f v u) (EP X pins σ Q) X.xe s
def UnR (X : Cx) (f : Value → Sem Value) (r : V → Hp → VK → Prop) : Prop :=
  ∀ (pins : List (Addr × Obj)) (s : Shared) (σ : St) (H : Hp) (x : V) (v : Value) (Q : VK), Inv X pins σ H s → RelV x v → r x H Q →
    wpAny (model X.prog X.w) X.A (f v) (EP X pins σ Q) X.xe s
def CallR (X : Cx) (f : Value) (r : List V → Hp → VK → Prop) : Prop :=
  ∀ (pins : List (Addr × Obj)) (s : Shared) (σ : St) (H : Hp) (xs : List V) (us : List Value) (Q : VK), Inv X pins σ H s → Vals xs us → r xs H Q →
    wpAny (model X.prog X.w) X.A (call f us) (EP X pins σ Q) X.xe s
def TruR (X : Cx) (r : V → Hp → (Bool → Hp → Prop) → Prop) : Prop :=
  ∀ (pins : List (Addr × Obj)) (s : Shared) (σ : St) (H : Hp) (x : V) (v : Value) (Q : Bool → Hp → Prop), Inv X pins σ H s → RelV x v → r x H Q →
    wpAny (model X.prog X.w) X.A (truthy v) (TP X pins σ Q) X.xe s
def tOp (r : R2) (ta tb : TE) : TE := fun σ H Q => ta σ H fun x H1 => tb σ H1 fun y H2 => r x y H2 Q
def tUn (r : V → Hp → VK → Prop) (ta : TE) : TE := fun σ H Q => ta σ H fun x H1 => r x H1 Q
def rI (C : Int → Int → Prop) (g : Int → Int → V) : R2 := fun x y H Q => ∃ i j, x = .int i ∧ y = .int j ∧ C i j ∧ Q (g i j) H
def rI0 (g : Int → Int → V) : R2 := fun x y H Q => ∃ i j, x = .int i ∧ y = .int j ∧ Q (g i j) H
def rU (g : Int → V) : V → Hp → VK → Prop := fun x H Q => ∃ i, x = .int i ∧ Q (g i) H
section
variable {X : Cx} {a b c : Expr} {ta tb tc : TE} {pos : Pos}
theorem binT (ha : PE X a ta) (hb : PE X b tb) {pins : List (Addr × Obj)} {s : Shared} {σ : St} {H : Hp} {R : V → V → Hp → Prop} (I : Inv X pins σ H s)
    (h : ta σ H fun x H1 => tb σ H1 fun y H2 => R x y H2) {Q : Value → Shared → Prop} {f : Value → Value → Sem Value}
    (hf : ∀ v u s2 x y H2, Inv X pins σ H2 s2 → RelV x v → RelV y u → R x y H2 → wpAny (model X.prog X.w) X.A (f v u) Q X.xe s2) :
    wpAny (model X.prog X.w) X.A (eval a X.env) (fun v s₁ => wpAny (model X.prog X.w) X.A (eval b X.env) (fun u s₂ => wpAny (model X.prog X.w) X.A (f v u) Q X.xe s₂) X.xe s₁) X.xe s := by
  refine thn (ha pins s σ H _ I h) fun v s1 hm0 => ?_
  obtain ⟨x, H1, I1, r1, q1⟩ := hm0
  refine thn (hb pins s1 σ H1 _ I1 q1) fun u s2 hm0 => ?_
  obtain ⟨y, H2, I2, r2, q2⟩ := hm0
  exact hf v u s2 x y H2 I2 r1 r2 q2
theorem pe_op {op : Operator} {r : R2} (ho : OpR X (binaryOp op) r) (ha : PE X a ta) (hb : PE X b tb) : PE X (.BinOp a op b pos) (tOp r ta tb) := by
  intro pins s σ H Q I h
  exact wpAny_BinOp (binT ha hb I h fun v u s2 x y H2 I2 rx ry q => ho pins s2 σ H2 x y v u Q I2 rx ry q)
theorem pe_un {op : UnaryOp} {r : V → Hp → VK → Prop} (ho : UnR X (unaryOp op) r) (ha : PE X a ta) : PE X (.UnaryOp op a pos) (tUn r ta) := by
  intro pins s σ H Q I h
  refine UnaryOp_ (thn (ha pins s σ H _ I h) fun v s1 hm0 => ?_)
  obtain ⟨x, H1, I1, r1, q1⟩ := hm0
  exact ho pins s1 σ H1 x v Q I1 r1 q1
theorem opI {f : Value → Value → Sem Value} {C : Int → Int → Prop} {g : Int → Int → Int}
    (rule : ∀ (i j : Int) (t u : Tok) (s : Shared) (Q : Value → Shared → Prop) (E : Value → Shared → Prop), C i j → Q (.int (g i j) s.toks) { s with toks := s.toks + 1 } → wpAny (model X.prog X.w) X.A (f (.int i t) (.int j u)) Q E s) :
    OpR X f (rI C fun i j => .int (g i j)) := by
  intro pins s σ H x y v u Q I rx ry h
  obtain ⟨i, j, rfl, rfl, hc, q⟩ := h
  obtain ⟨t, rfl⟩ := rx
  obtain ⟨t', rfl⟩ := ry
  exact rule i j t t' s _ _ hc ⟨.int (g i j), H, I.tok _, ⟨_, rfl⟩, q⟩
theorem opI0 {f : Value → Value → Sem Value} {g : Int → Int → Int}
    (rule : ∀ (i j : Int) (t u : Tok) (s : Shared) (Q : Value → Shared → Prop) (E : Value → Shared → Prop), Q (.int (g i j) s.toks) { s with toks := s.toks + 1 } → wpAny (model X.prog X.w) X.A (f (.int i t) (.int j u)) Q E s) :
    OpR X f (rI0 fun i j => .int (g i j)) := by
  intro pins s σ H x y v u Q I rx ry h
  obtain ⟨i, j, rfl, rfl, q⟩ := h
  obtain ⟨t, rfl⟩ := rx
  obtain ⟨t', rfl⟩ := ry
  exact rule i j t t' s _ _ ⟨.int (g i j), H, I.tok _, ⟨_, rfl⟩, q⟩
theorem opB0 {f : Value → Value → Sem Value} {g : Int → Int → Bool}
    (rule : ∀ (i j : Int) (t u : Tok) (s : Shared) (Q : Value → Shared → Prop) (E : Value → Shared → Prop), Q (.bool (g i j)) s → wpAny (model X.prog X.w) X.A (f (.int i t) (.int j u)) Q E s) :
    OpR X f (rI0 fun i j => .bl (g i j)) := by
  intro pins s σ H x y v u Q I rx ry h
  obtain ⟨i, j, rfl, rfl, q⟩ := h
  obtain ⟨t, rfl⟩ := rx
  obtain ⟨t', rfl⟩ := ry
  exact rule i j t t' s _ _ ⟨.bl (g i j), H, I, rfl, q⟩
def CDiv (i j : Int) : Prop := 0 < j ∧ j < 1073741824
def CMul (i j : Int) : Prop := (-(2 ^ 64) < i ∧ i < 2 ^ 64) ∨ (-(2 ^ 64) < j ∧ j < 2 ^ 64)
theorem CMul.ok {i j : Int} (h : CMul i j) : IntMulOk i j := by
  rcases h with ⟨h1, h2⟩ | ⟨h1, h2⟩
  · exact .of_left (intBits_le_64 h1 h2)
  · exact .of_right (intBits_le_64 h1 h2)
theorem op_add : OpR X (binaryOp .Add) (rI0 fun i j => .int (i + j)) := opI0 fun _ _ _ _ _ _ _ q => add_int q
theorem op_sub : OpR X (binaryOp .Sub) (rI0 fun i j => .int (i - j)) := opI0 fun _ _ _ _ _ _ _ q => sub_int q
theorem op_mul : OpR X (binaryOp .Mult) (rI CMul fun i j => .int (i * j)) := opI fun _ _ _ _ _ _ _ hc q => mul_int q hc.ok
theorem op_fdiv : OpR X (binaryOp .FloorDiv) (rI CDiv fun i j => .int (i / j)) := opI fun i j _ _ _ _ _ hc q => by
  have h1 : (0 : Int) < j := hc.1
  have h2 : j < 1073741824 := hc.2
  exact floordiv_int (by omega) (by rw [Int.fdiv_eq_ediv_of_nonneg i (by omega)]; exact q) (.inl (PyProof.noPylong_small (by omega)))
theorem op_mod : OpR X (binaryOp .Mod) (rI (fun _ j => 0 < j) fun i j => .int (i % j)) := opI fun i j _ _ _ _ _ hc q => by
  have h1 : (0 : Int) < j := hc
  exact mod_int' (by omega) (by rw [Int.fmod_eq_emod_of_nonneg i (by omega)]; exact q)
theorem unI {f : Value → Sem Value} {g : Int → Int}
    (rule : ∀ (i : Int) (t : Tok) (s : Shared) (Q : Value → Shared → Prop) (E : Value → Shared → Prop), Q (.int (g i) s.toks) { s with toks := s.toks + 1 } → wpAny (model X.prog X.w) X.A (f (.int i t)) Q E s) :
    UnR X f (rU fun i => .int (g i)) := by
  intro pins s σ H x v Q I rx h
  obtain ⟨i, rfl, q⟩ := h
  obtain ⟨t, rfl⟩ := rx
  exact rule i t s _ _ ⟨.int (g i), H, I.tok _, ⟨_, rfl⟩, q⟩
theorem un_neg : UnR X (unaryOp .USub) (rU fun i => .int (-i)) := unI fun _ _ _ _ _ q => neg_int q
end
def scal : V → V → Bool
  | .non, .non => true | .non, .int _ => true | .int _, .non => true | .non, .bl _ => true | .bl _, .non => true | .non, .str _ => true | .str _, .non => true
  | .int _, .int _ => true | .bl _, .bl _ => true | .str _, .str _ => true | .byt _, .byt _ => true
  | .int _, .str _ => true | .str _, .int _ => true | .bl _, .str _ => true | .str _, .bl _ => true
  | _, _ => false
def rEq : R2 := fun x y H Q => scal x y = true ∧ Q (.bl (decide (x = y))) H
def rNe : R2 := fun x y H Q => scal x y = true ∧ Q (.bl (!decide (x = y))) H
theorem dec_int {i j : Int} : decide (V.int i = V.int j) = (i == j) := by
  rw [Bool.eq_iff_iff]
  simp
theorem dec_bl {i j : Bool} : decide (V.bl i = V.bl j) = (i == j) := by
  rw [Bool.eq_iff_iff]
  simp
theorem dec_str {i j : Str} : decide (V.str i = V.str j) = (i == j) := by
  rw [Bool.eq_iff_iff]
  simp
theorem dec_byt {i j : Array UInt8} : decide (V.byt i = V.byt j) = (i.toList == j.toList) := by
  rw [Bool.eq_iff_iff]
  cases i
  cases j
  simp
section
variable {X : Cx} {a b c : Expr} {ta tb tc : TE} {pos : Pos}
theorem fin_bl {pins : List (Addr × Obj)} {σ : St} {H : Hp} {s : Shared} {Q : VK} {k k' : Bool} (I : Inv X pins σ H s) (q : Q (.bl k) H) (e : k = k') : EP X pins σ Q (.bool k') s := by
  subst e
  exact ⟨.bl k, H, I, rfl, q⟩
theorem op_eq : OpR X (compareOp .Eq) rEq := by
  intro pins s σ H x y v u Q I rx ry h
  obtain ⟨hs, q⟩ := h
  cases x with
  | non =>
    cases rx
    cases y with
    | non => cases ry; exact PySem.EqNone.eq_none_none (fin_bl I q (by simp))
    | bl j => cases ry; exact PySem.EqNone.eq_none_bool (fin_bl I q (by simp))
    | int j => obtain ⟨t', rfl⟩ := ry; exact PySem.EqNone.eq_none_int (fin_bl I q (by simp))
    | str j => obtain ⟨t', rfl⟩ := ry; exact PySem.EqNone.eq_none_str (fin_bl I q (by simp))
    | _ => exact absurd (show false = true from hs) Bool.false_ne_true
  | bl i =>
    cases rx
    cases y with
    | non => cases ry; exact PySem.EqNone.eq_bool_none (fin_bl I q (by simp))
    | bl j => cases ry; exact eq_bool (fin_bl I q dec_bl)
    | str j => obtain ⟨t', rfl⟩ := ry; exact PySem.EqMixed.eq_bool_str (fin_bl I q (by simp))
    | _ => exact absurd (show false = true from hs) Bool.false_ne_true
  | int i =>
    obtain ⟨t, rfl⟩ := rx
    cases y with
    | non => cases ry; exact PySem.EqNone.eq_int_none (fin_bl I q (by simp))
    | int j => obtain ⟨t', rfl⟩ := ry; exact eq_int (fin_bl I q dec_int)
    | str j => obtain ⟨t', rfl⟩ := ry; exact PySem.EqMixed.eq_int_str (fin_bl I q (by simp))
    | _ => exact absurd (show false = true from hs) Bool.false_ne_true
  | str i =>
    obtain ⟨t, rfl⟩ := rx
    cases y with
    | non => cases ry; exact PySem.EqNone.eq_str_none (fin_bl I q (by simp))
    | bl j => cases ry; exact PySem.EqMixed.eq_str_bool (fin_bl I q (by simp))
    | int j => obtain ⟨t', rfl⟩ := ry; exact PySem.EqMixed.eq_str_int (fin_bl I q (by simp))
    | str j => obtain ⟨t', rfl⟩ := ry; exact eq_str (fin_bl I q dec_str)
    | _ => exact absurd (show false = true from hs) Bool.false_ne_true
  | byt i =>
    obtain ⟨t, rfl⟩ := rx
    cases y with
    | byt j => obtain ⟨t', rfl⟩ := ry; exact PySem.W.eq_bytes (fin_bl I q dec_byt)
    | _ => exact absurd (show false = true from hs) Bool.false_ne_true
  | _ => cases y <;> exact absurd (show false = true from hs) Bool.false_ne_true
theorem op_ne : OpR X (compareOp .NotEq) rNe := by
  intro pins s σ H x y v u Q I rx ry h
  obtain ⟨hs, q⟩ := h
  cases x with
  | non =>
    cases rx
    cases y with
    | non => cases ry; exact PySem.EqNone.ne_none_none (fin_bl I q (by simp))
    | bl j => cases ry; exact PySem.EqNone.ne_none_bool (fin_bl I q (by simp))
    | int j => obtain ⟨t', rfl⟩ := ry; exact PySem.EqNone.ne_none_int (fin_bl I q (by simp))
    | str j => obtain ⟨t', rfl⟩ := ry; exact PySem.EqNone.ne_none_str (fin_bl I q (by simp))
    | _ => exact absurd (show false = true from hs) Bool.false_ne_true
  | bl i =>
    cases rx
    cases y with
    | non => cases ry; exact PySem.EqNone.ne_bool_none (fin_bl I q (by simp))
    | bl j => cases ry; exact ne_bool (fin_bl I q (congrArg not dec_bl))
    | str j => obtain ⟨t', rfl⟩ := ry; exact PySem.EqMixed.ne_bool_str (fin_bl I q (by simp))
    | _ => exact absurd (show false = true from hs) Bool.false_ne_true
  | int i =>
    obtain ⟨t, rfl⟩ := rx
    cases y with
    | non => cases ry; exact PySem.EqNone.ne_int_none (fin_bl I q (by simp))
    | int j => obtain ⟨t', rfl⟩ := ry; exact ne_int (fin_bl I q (congrArg not dec_int))
    | str j => obtain ⟨t', rfl⟩ := ry; exact PySem.EqMixed.ne_int_str (fin_bl I q (by simp))
    | _ => exact absurd (show false = true from hs) Bool.false_ne_true
  | str i =>
    obtain ⟨t, rfl⟩ := rx
    cases y with
    | non => cases ry; exact PySem.EqNone.ne_str_none (fin_bl I q (by simp))
    | bl j => cases ry; exact PySem.EqMixed.ne_str_bool (fin_bl I q (by simp))
    | int j => obtain ⟨t', rfl⟩ := ry; exact PySem.EqMixed.ne_str_int (fin_bl I q (by simp))
    | str j => obtain ⟨t', rfl⟩ := ry; exact ne_str (fin_bl I q (congrArg not dec_str))
    | _ => exact absurd (show false = true from hs) Bool.false_ne_true
  | byt i =>
    obtain ⟨t, rfl⟩ := rx
    cases y with
    | byt j => obtain ⟨t', rfl⟩ := ry; exact PySem.W.ne_bytes (fin_bl I q (congrArg not dec_byt))
    | _ => exact absurd (show false = true from hs) Bool.false_ne_true
  | _ => cases y <;> exact absurd (show false = true from hs) Bool.false_ne_true
theorem op_lt : OpR X (compareOp .Lt) (rI0 fun i j => .bl (decide (i < j))) := opB0 fun _ _ _ _ _ _ _ q => lt_int q
theorem op_le : OpR X (compareOp .LtE) (rI0 fun i j => .bl (decide (i ≤ j))) := opB0 fun _ _ _ _ _ _ _ q => le_int q
theorem op_gt : OpR X (compareOp .Gt) (rI0 fun i j => .bl (decide (j < i))) := opB0 fun _ _ _ _ _ _ _ q => gt_int q
theorem op_in_str : OpR X (compareOp .In) (fun x y H Q => ∃ i j, x = .str i ∧ y = .str j ∧ Q (.bl (!(Builtin.Str.occurrences j i 0 j.length 1).isEmpty)) H) := by
  intro pins s σ H x y v u Q I rx ry h
  obtain ⟨i, j, rfl, rfl, q⟩ := h
  obtain ⟨t, rfl⟩ := rx
  obtain ⟨t', rfl⟩ := ry
  exact in_str (fin_bl I q rfl)
theorem nomark (b : Expr) {op : CmpOp} (h : op ≠ .In := by decide) (h2 : op ≠ .NotIn := by decide) : behindInMarks op b = false := by
  have e1 : (op == CmpOp.In) = false := by cases op <;> first | rfl | exact absurd rfl h
  have e2 : (op == CmpOp.NotIn) = false := by cases op <;> first | rfl | exact absurd rfl h2
  cases b <;> simp [behindInMarks, e1, e2]
theorem pe_cmpR {op : CmpOp} {r : R2} (ho : OpR X (compareOp op) r) (ha : PE X a ta) (hb : PE X b tb) (hm : behindInMarks op b = false) : PE X (.Compare a [op] [b] pos) (tOp r ta tb) := by
  intro pins s σ H Q I h
  exact wpAny_Compare1 (binT ha hb I h fun v u s2 x y H2 I2 rx ry q => ho pins s2 σ H2 x y v u Q I2 rx ry q) hm
def tTest (t : TE) : TT := fun σ H Q => t σ H fun x H' => ∃ k, x = .bl k ∧ Q k H'
theorem pt_cmpR {op : CmpOp} {r : R2} (ho : OpR X (compareOp op) r) (ha : PE X a ta) (hb : PE X b tb) (hm : behindInMarks op b = false) : PT X (.Compare a [op] [b] pos) (tTest (tOp r ta tb)) := by
  intro pins s σ H Q I h
  refine wpAny_isTrue_Compare1 (thn (ha pins s σ H _ I h) fun v s1 ⟨x, H1, I1, r1, q1⟩ => thn (hb pins s1 σ H1 _ I1 q1) fun u s2 ⟨y, H2, I2, r2, q2⟩ =>
    thn (ho pins s2 σ H2 x y v u _ I2 r1 r2 q2) fun c s3 ⟨z, H3, I3, r3, k, e, q3⟩ => ?_) hm
  subst e
  cases r3
  exact wpAny_truthy_bool ⟨H3, I3, q3⟩
def tChain (r r' : R2) (ta tb tc : TE) : TE := fun σ H Q => ta σ H fun x H1 => tb σ H1 fun y H2 => r x y H2 fun z H3 => ∃ k, z = .bl k ∧
  (if k = true then tc σ H3 fun w' H4 => r' y w' H4 Q else Q (.bl false) H3)
theorem pe_chain {op op' : CmpOp} {r r' : R2} (ho : OpR X (compareOp op) r) (ho' : OpR X (compareOp op') r') (ha : PE X a ta) (hb : PE X b tb) (hc : PE X c tc)
    (hm : lastMarks [op, op'] [b, c] = false := by with_unfolding_all rfl) : PE X (.Compare a [op, op'] [b, c] pos) (tChain r r' ta tb tc) := by
  intro pins s σ H Q I h
  refine Compare_chain (thn (ha pins s σ H _ I h) fun v s1 ⟨x, H1, I1, r1, q1⟩ => chain_link (thn (hb pins s1 σ H1 _ I1 q1) fun u s2 ⟨y, H2, I2, r2, q2⟩ =>
    thn (ho pins s2 σ H2 x y v u _ I2 r1 r2 q2) fun d s3 ⟨z, H3, I3, r3, k, e, q3⟩ => ?_)) hm
  subst e
  cases r3
  refine wpAny_truthy_bool ?_
  cases k with
  | false => exact ite_ff ⟨.bl false, H3, I3, rfl, q3⟩
  | true => exact ite_tt (chain_last (thn (hc pins s3 σ H3 _ I3 q3) fun w' s4 ⟨z', H4, I4, r4, q4⟩ => ho' pins s4 σ H4 y z' u w' Q I4 r2 r4 q4))
def TruV (K : PySem.W.Frag) (x : V) (H : Hp) (k : Bool) : Prop :=
  match x with
  | .non => k = false
  | .bl b => k = b
  | .int i => k = (i != 0)
  | .str y => y.length ≤ sizeLine ∧ k = ((y.length : Int) != 0)
  | .byt y => y.size ≤ sizeLine ∧ k = ((y.size : Int) != 0)
  | .ref p => (∃ xs, SqL K H p xs ∧ k = !xs.isEmpty) ∨ (∃ xs, SqT K H p xs ∧ k = !xs.isEmpty) ∨ ∃ kvs, H p = some (.dK kvs) ∧ k = !kvs.isEmpty
  | _ => False
theorem isEmpty_kv {κ : Type} {kvs : List (κ × V)} {vs : List (κ × Value)} (r : KV kvs vs) : (!vs.isEmpty) = !kvs.isEmpty := by
  cases r <;> rfl
theorem isEmpty_of {xs : List V} {its : List Value} (r : Vals xs its) : (!its.toArray.isEmpty) = !xs.isEmpty := by
  cases r <;> simp
theorem line63 : (sizeLine : Nat) < 2 ^ 63 := by rw [sizeLine_eq]; decide
theorem tru_ok : TruR X (fun x H Q => ∃ k, TruV X.K x H k ∧ Q k H) := by
  intro pins s σ H x v Q I rx h
  obtain ⟨k, e, q⟩ := h
  have hl := line63
  have hs : sizeLine = 16777216 := sizeLine_eq
  cases x with
  | non =>
    cases rx
    have e' : k = false := e
    subst e'
    exact truthy_none ⟨H, I, q⟩
  | bl b =>
    cases rx
    have e' : k = b := e
    subst e'
    exact wpAny_truthy_bool ⟨H, I, q⟩
  | int i =>
    obtain ⟨t, rfl⟩ := rx
    have e' : k = (i != 0) := e
    subst e'
    exact PySem.P.truthy_int ⟨H, I, q⟩
  | str y =>
    obtain ⟨t, rfl⟩ := rx
    obtain ⟨hy, e'⟩ : y.length ≤ sizeLine ∧ k = ((y.length : Int) != 0) := e
    subst e'
    exact PySem.P.truthy_str (by omega) ⟨H, I.tok _, q⟩
  | byt y =>
    obtain ⟨t, rfl⟩ := rx
    obtain ⟨hy, e'⟩ : y.size ≤ sizeLine ∧ k = ((y.size : Int) != 0) := e
    subst e'
    exact PySem.W.truthy_bytes (by omega) ⟨H, I.tok _, q⟩
  | ref p =>
    cases rx
    have e' : (∃ xs, SqL X.K H p xs ∧ k = !xs.isEmpty) ∨ (∃ xs, SqT X.K H p xs ∧ k = !xs.isEmpty) ∨ ∃ kvs, H p = some (.dK kvs) ∧ k = !kvs.isEmpty := e
    rcases e' with ⟨xs, hx, e'⟩ | ⟨xs, hx, e'⟩ | ⟨kvs, hx, e'⟩
    · subst e'
      obtain ⟨its, r, pl, hz⟩ := I.list hx
      have hlen := r.length
      exact wpAny_truthy_list pl.isList (by simp only [List.size_toArray]; omega) ⟨H, I.tok _, by rw [isEmpty_of r]; exact q⟩
    · subst e'
      obtain ⟨its, r, pl, hz⟩ := I.tuple hx
      have hlen := r.length
      exact truthy_tuple pl (by simp only [List.size_toArray]; omega) ⟨H, I.tok _, by rw [isEmpty_of r]; exact q⟩
    · subst e'
      obtain ⟨hz, hS, vs, r, m⟩ : kvs.length ≤ sizeLine ∧ (p == sysModules) = false ∧ ∃ vs, KV kvs vs ∧ s.heap.DictOf (mixKind X.prog X.w) p vs := I.hok p _ hx
      have hlen : kvs.length = vs.length := Paired.length r
      exact wpAny_truthy_dict hS m (by omega) ⟨H, I.tok _, by rw [isEmpty_kv r]; exact q⟩
  | _ => exact (show False from e).elim
theorem pt_truth (ha : PE X a ta) (he : ∀ whole, isTrue a X.env whole = (do let v ← whole; standAt a.pos; holding [v] (truthy v))) :
    PT X a (fun σ H Q => ta σ H fun x H' => ∃ k, TruV X.K x H' k ∧ Q k H') := by
  intro pins s σ H Q I h
  refine isTrue_plain (thn (ha pins s σ H _ I h) fun v s1 hm0 => ?_) (he _)
  obtain ⟨x, H1, I1, r1, q1⟩ := hm0
  exact tru_ok pins s1 σ H1 x v Q I1 r1 q1
theorem op_add_str : OpR X (binaryOp .Add) (fun x y H Q => ∃ i j, x = .str i ∧ y = .str j ∧ i.length + j.length ≤ sizeLine ∧ Q (.str (i ++ j)) H) := by
  intro pins s σ H x y v u Q I rx ry h
  obtain ⟨i, j, rfl, rfl, hz, q⟩ := h
  obtain ⟨t, rfl⟩ := rx
  obtain ⟨t', rfl⟩ := ry
  exact add_str (fun t' tk => ⟨.str (i ++ j), H, I.tok _, ⟨_, rfl⟩, q⟩) hz
theorem vals1 {x : V} {us : List Value} (r : Vals [x] us) : ∃ u, us = [u] ∧ RelV x u := by
  cases r with
  | cons r1 r2 => cases r2; exact ⟨_, rfl, r1⟩
theorem call_str_int : CallR X (.type "str") (fun xs H Q => ∃ i, xs = [.int i] ∧ i.natAbs.log2 < 1920 ∧ Q (.str (toString i)) H) := by
  intro pins s σ H xs us Q I r h
  obtain ⟨i, rfl, hz, q⟩ := h
  obtain ⟨u, rfl, t, rfl⟩ := vals1 r
  exact PySem.P.str_of_int hz ⟨.str _, H, I.tok _, ⟨_, rfl⟩, q⟩
end
end L2
namespace L2
open PySem PySem.Spec PyProof.Rows
structure ObjM (h : Heap) (x dx C : Addr) (mA : Str → Option Value) : Prop where
  obj : h.get? x = some (PySem.W.instObj C dx)
  ns : h.Ns1 dx mA
  ne : dx ≠ x
theorem lookIn_ns {h : Heap} {dx : Addr} {mA : Str → Option Value} (n : h.Ns1 dx mA) : ∃ od, h.get? dx = some od ∧ ∀ name, PySem.W.lookIn name od = some (mA name) := by
  obtain ⟨o, es, ep, ho, hd, hk, _, hm⟩ := n
  refine ⟨o, ho, fun name => ?_⟩
  have e := hm name
  unfold nsFind findBy at e
  rw [← Array.find?_toList] at e
  unfold PySem.W.lookIn
  rw [hd]
  dsimp only
  split
  · rename_i y q
    rw [q] at e
    exact congrArg some e
  · rename_i q
    rw [q] at e
    have a : es.toList.any (·.refKey) = false := by
      rw [List.any_eq_false]
      intro y hy
      obtain ⟨z, t, hkey⟩ := hk y (Array.mem_toList_iff.mp hy)
      simp [DictEntry.refKey, hkey]
    have a' : ¬ es.toList.any (·.refKey) = true := by rw [a]; exact Bool.false_ne_true
    rw [if_neg a']
    exact congrArg some e
theorem ObjM.look {h : Heap} {x dx C : Addr} {mA : Str → Option Value} (I : ObjM h x dx C mA) : ∃ od, PySem.W.InstAt h x (PySem.W.instObj C dx) C (some od) ∧ ∀ name, PySem.W.lookIn name od = some (mA name) :=
  let ⟨od, ho, hl⟩ := lookIn_ns I.ns
  ⟨od, ⟨I.obj, rfl, rfl, ho⟩, hl⟩
section
variable {prog : Program} {w : World} {A : Around} {E : Value → Shared → Prop} {s : Shared} {K : PySem.W.Frag} {x dx C f : Addr} {mA : Str → Option Value} {name : Str} {v : Value}
theorem set_map {ns : List Str} {Q : Unit → Shared → Prop} (X : K.In s.heap) (I : ObjM s.heap x dx C mA)
    (hs : PySem.W.findIn K (.ref C) "__setattr__" = some (some (.builtin "object.__setattr__"))) (hp : PySem.W.plainOver K C = true) (ht : PySem.W.takerIn K C name = some none) (hh : PySem.W.hasDictIn K C = true)
    (hw : PySem.Within mA ns) (hsz : ns.length ≤ sizeLine)
    (h : ∀ h', ObjM h' x dx C (fun y => if y = name then some v else mA y) → Heap.SameBut dx s.heap h' → Q () { s with heap := h', toks := s.toks + 2 }) :
    wpAny (model prog w) A (setAttr (.ref x) name v) Q E s := by
  obtain ⟨od, J, hl⟩ := I.look
  refine PySem.W.set_plain X J hs (PySem.W.osa_open (s := { s with toks := s.toks + 1 }) (r := none) X J hp ht fun b => ?_)
  obtain ⟨cd, hc, hd'⟩ := PySem.W.any_some hh
  have hx : s.heap.get? x = some ⟨.ref C, some dx, .plain, #[]⟩ := I.obj
  refine wpAny_bind (wpAny_pure (wpAny_bind (wpAny_bind (wpAny_loadPart hx (wpAny_bind (PySem.W.Looks.here (s := { s with toks := s.toks + 1 }) (PySem.W.looks_clsIn X hc) ?_))))))
  rw [hd']
  refine wpAny_pure (a := some dx) (wpAny_bind (wpAny_pure (wpAny_bind ?_)))
  refine wpAny_nsSet1 (s := { s with toks := s.toks + 1 }) I.ns fun h' hn2 hs2 => ?_
  obtain ⟨oD, esD, epD, hoD, hdD, hcD⟩ := hn2.count (PySem.Within.cons name v hw)
  refine wpAny_bind (wpAny_lookBehind hoD (by rw [hdD]; exact pastItsLine_dict (Nat.le_trans hcD (by rw [List.length_cons]; omega))) ?_)
  exact wpAny_pure (h _ ⟨(hs2.2 _ (Ne.symm I.ne)).trans I.obj, hn2, I.ne⟩ hs2)
theorem make_map {R : Result → Shared → Prop} {vs : List Value} {kw : List (Str × Value)} (X : K.In s.heap) (hm : PySem.W.makesIn K C = true)
    (hi : PySem.W.findIn K (.ref C) "__init__" = some (some (.ref f))) (hf : PySem.W.typeIn K (.ref f) = some (.type "function"))
    (h : codeAny (model prog w) (A.under (.builtin "type.__call__" ⟨.ref C :: vs, kw⟩)) (.call (.ref f) ⟨.ref (s.heap.objs.size + 1) :: vs, kw⟩) (PySem.W.InitBack (s.heap.objs.size + 1) R)
      { s with heap := (s.heap.push PySem.W.emptyDict).push (PySem.W.instObj C s.heap.objs.size) }) :
    codeAny (model prog w) A (.call (.ref C) ⟨vs, kw⟩) R s := by
  obtain ⟨hh, g, d, t, os⟩ := s
  exact PySem.W.make_core (PySem.W.makes_of X hm) (PySem.W.looks_findIn X hi) (fun self => PySem.W.bind_fn X self hf) (.inl rfl) h
end
def putF (f : Str) (v : V) : List (Str × V) → List (Str × V)
  | [] => [(f, v)]
  | (g, x) :: r => if g = f then (g, v) :: r else (g, x) :: putF f v r
theorem lookup_putF (f g : Str) (v : V) : ∀ fs : List (Str × V), (putF f v fs).lookup g = if g = f then some v else fs.lookup g
  | [] => by
    show List.lookup g [(f, v)] = _
    by_cases h : g = f
    · have hb : (g == f) = true := beq_iff_eq.mpr h
      simp only [List.lookup, hb, if_pos h]
    · have hb : (g == f) = false := beq_eq_false_iff_ne.mpr h
      simp only [List.lookup, hb, if_neg h]
  | (k, x) :: r => by
    have ih := lookup_putF f g v r
    rw [show putF f v ((k, x) :: r) = (if k = f then (k, v) :: r else (k, x) :: putF f v r) from rfl]
    by_cases hk : k = f
    · rw [if_pos hk]
      by_cases h : g = k
      · have hb : (g == k) = true := beq_iff_eq.mpr h
        simp only [List.lookup, hb, if_pos (h.trans hk)]
      · have hb : (g == k) = false := beq_eq_false_iff_ne.mpr h
        simp only [List.lookup, hb, if_neg (fun e : g = f => h (e.trans hk.symm))]
    · rw [if_neg hk]
      by_cases h : g = k
      · have hb : (g == k) = true := beq_iff_eq.mpr h
        simp only [List.lookup, hb, if_neg (fun e : g = f => hk (h.symm.trans e))]
      · have hb : (g == k) = false := beq_eq_false_iff_ne.mpr h
        simp only [List.lookup, hb]
        exact ih
theorem keys_putF (f : Str) (v : V) : ∀ fs : List (Str × V), f ∈ (putF f v fs).map (·.1) ∧ ∀ g, g ∈ fs.map (·.1) → g ∈ (putF f v fs).map (·.1)
  | [] => ⟨by simp [putF], fun g h => by simp at h⟩
  | (k, x) :: r => by
    obtain ⟨i1, i2⟩ := keys_putF f v r
    rw [show putF f v ((k, x) :: r) = (if k = f then (k, v) :: r else (k, x) :: putF f v r) from rfl]
    by_cases hk : k = f
    · rw [if_pos hk]
      subst hk
      exact ⟨by simp, fun g h => by simpa using h⟩
    · rw [if_neg hk]
      refine ⟨?_, fun g h => ?_⟩
      · rw [List.map_cons]
        exact List.mem_cons_of_mem _ i1
      · rw [List.map_cons] at h ⊢
        rcases List.mem_cons.mp h with e | e
        · exact List.mem_cons.mpr (.inl e)
        · exact List.mem_cons_of_mem _ (i2 g e)
theorem length_putF (f : Str) (v : V) : ∀ fs : List (Str × V), (putF f v fs).length ≤ fs.length + 1
  | [] => by simp [putF]
  | (k, x) :: r => by
    have ih := length_putF f v r
    rw [show putF f v ((k, x) :: r) = (if k = f then (k, v) :: r else (k, x) :: putF f v r) from rfl]
    by_cases hk : k = f
    · rw [if_pos hk, List.length_cons, List.length_cons]; omega
    · rw [if_neg hk, List.length_cons, List.length_cons]; omega
theorem RelO.some_of {v : V} {o : Option Value} (r : RelO (some v) o) : ∃ u, o = some u ∧ RelV v u := by
  cases o with
  | none => exact (show False from r).elim
  | some u => exact ⟨u, rfl, r⟩
section
variable {P : Program} {w : World} {H H' : Hp} {h h' : Heap} {a C dx : Addr} {fs fs' : List (Str × V)}
theorem ins_get (hok : HOk P w H h) (e : H a = some (.ins C dx fs)) : ∃ mA, ObjM h a dx C mA ∧ (∀ f, RelO (fs.lookup f) (mA f)) ∧ PySem.Within mA (fs.map (·.1)) ∧ fs.length ≤ 1000 ∧ H dx = some (.own a) := by
  obtain ⟨d, z, ne, ob, mA, n, r, q⟩ := (show ObjOk P w H h a (.ins C dx fs) from hok a _ e)
  exact ⟨mA, ⟨ob, n, ne⟩, r, q, z, d⟩
end
structure Cls (K : PySem.W.Frag) (C : Addr) : Prop where
  pg : PySem.W.plainGet K C Str.empty = true
  hd : PySem.W.hasDictIn K C = true
  po : PySem.W.plainOver K C = true
  sa : PySem.W.findIn K (.ref C) "__setattr__" = some (some (.builtin "object.__setattr__"))
theorem Cls.get {K : PySem.W.Frag} {C : Addr} (c : Cls K C) (f : Str) : PySem.W.plainGet K C f = true := c.pg
def NoAttr (K : PySem.W.Frag) (C : Addr) (f : Str) : Prop := PySem.W.findIn K (.ref C) f = some none
theorem NoAttr.taker {K : PySem.W.Frag} {C : Addr} {f : Str} (n : NoAttr K C f) : PySem.W.takerIn K C f = some none := by
  unfold PySem.W.takerIn
  rw [show PySem.W.findIn K (.ref C) f = some none from n]
  rfl
section
variable {X : Cx} {pins : List (Addr × Obj)} {σ : St} {H : Hp} {s : Shared} {a C dx : Addr} {fs : List (Str × V)} {f : Str} {v : V} {A : Around} {E : Value → Shared → Prop}
theorem setattr_ok {y : V} {u : Value} {Q : Unit → Shared → Prop} (I : Inv X pins σ H s) (e : H a = some (.ins C dx fs)) (c : Cls X.K C) (n : NoAttr X.K C f) (hl : fs.length < 1000) (ry : RelV y u)
    (h : ∀ s', Inv X pins σ (upd H a (.ins C dx (putF f y fs))) s' → Q () s') : wpAny (model X.prog X.w) A (setAttr (.ref a) f u) Q E s := by
  obtain ⟨mA, O, r, wi, _, ho⟩ := ins_get I.hok e
  have hz : (fs.map (·.1)).length ≤ sizeLine := by rw [List.length_map, sizeLine_eq]; omega
  refine set_map I.kIn O c.sa c.po n.taker c.hd wi hz fun h' O' sb => h _ ?_
  have hd : ∃ o, h'.get? dx = some o := let ⟨o, _, _, e', _⟩ := O'.ns; ⟨o, e'⟩
  refine I.write (x := a) (e := dx) (by rw [e]; exact True.intro) (.inr ho) (fun b q hb z => (sb.2 b hb).trans z) hd ?_
  refine ⟨by rw [upd_ne O.ne]; exact ho, ?_, O.ne, O'.obj, _, O'.ns, fun g => ?_, fun g hg => ?_⟩
  · have := length_putF f y fs; omega
  · show RelO ((putF f y fs).lookup g) (if g = f then some u else mA g)
    rw [lookup_putF]
    by_cases q : g = f
    · rw [if_pos q, if_pos q]; exact ry
    · rw [if_neg q, if_neg q]; exact r g
  · by_cases q : g = f
    · rw [q]; exact (keys_putF f y fs).1
    · refine (keys_putF f y fs).2 g (wi g fun z => hg ?_)
      show (if g = f then some u else mA g) = none
      rw [if_neg q]; exact z
theorem Inv.made (I : Inv X pins σ H s) : Inv X pins σ (upd (upd H s.heap.objs.size (.own (s.heap.objs.size + 1))) (s.heap.objs.size + 1) (.ins C s.heap.objs.size []))
    { s with heap := (s.heap.push PySem.W.emptyDict).push (PySem.W.instObj C s.heap.objs.size) } := by
  have e1 : (s.heap.push PySem.W.emptyDict).get? s.heap.objs.size = some PySem.W.emptyDict := Heap.get?_push_size s.heap rfl
  have e2 : ((s.heap.push PySem.W.emptyDict).push (PySem.W.instObj C s.heap.objs.size)).get? (s.heap.objs.size + 1) = some (PySem.W.instObj C s.heap.objs.size) := by
    have := Heap.get?_push_size (s.heap.push PySem.W.emptyDict) (o := PySem.W.instObj C s.heap.objs.size) rfl
    rwa [Heap.size_push] at this
  have e3 : (s.heap.push PySem.W.emptyDict).Ns s.heap.objs.size (fun _ => none) := ⟨PySem.W.emptyDict, #[], _, e1, rfl, (fun e he => absurd he (by simp)), fun _ => rfl⟩
  have I1 := I.laid (a := s.heap.objs.size) (o := .own (s.heap.objs.size + 1)) (h' := s.heap.push PySem.W.emptyDict) (t' := s.toks) (fun b u q => Heap.get?_push_of_some _ q) (Nat.le_refl _) ⟨_, e1⟩
  refine I1.laid (a := s.heap.objs.size + 1) (o := .ins C s.heap.objs.size []) (t' := s.toks) (fun b u q => Heap.get?_push_of_some _ q) (Nat.le_of_eq (Heap.size_push _ _)) ?_
  have ne : s.heap.objs.size ≠ s.heap.objs.size + 1 := Nat.ne_of_lt (Nat.lt_succ_self _)
  refine ⟨by rw [upd_ne ne, upd_same], Nat.zero_le _, ne, e2, fun _ => none, (Heap.Ns1.of_empty e3).at fun o q => Heap.get?_push_of_some _ q, fun _ => True.intro, fun y hy => absurd rfl hy⟩
end
def sFld (K : PySem.W.Frag) (ta tv : TE) (f : Str) : TS := fun D σ H => tv σ H fun y H1 => ta σ H1 fun x H2 => ∃ a C dx fs, x = .ref a ∧ H2 a = some (.ins C dx fs) ∧ Cls K C ∧ NoAttr K C f ∧ fs.length < 1000 ∧
  D.nx σ (upd H2 a (.ins C dx (putF f y fs)))
section
variable {X : Cx} {o e value : Expr} {f : Str} {pos pos' tpos : Pos} {ta tv : TE}
theorem ps_fld (ha : PE X o ta) (hv : PE X value tv) (hs : swapsWith value (some (.Attribute o f pos')) pos.line X.env = pure false) : PS X (.Assign [.Attribute o f pos'] value pos) (sFld X.K ta tv f) := by
  intro pins s σ H D I h
  refine plainObj_wpAny_Assign_Attribute (thn (hv pins s σ H _ I h) fun u s1 hm0 => ?_) hs
  obtain ⟨y, H1, I1, ry, q⟩ := hm0
  refine thn (ha pins s1 σ H1 _ I1 q) fun ov s2 hm1 => ?_
  obtain ⟨x, H2, I2, rx, a, C, dx, fs, ex, ea, c, n, l, q2⟩ := hm1
  subst ex
  obtain rfl : ov = Value.ref a := rx
  exact setattr_ok I2 ea c n l ry fun s3 I3 => ⟨σ, _, I3, q2⟩
end
section
variable {X : Cx} {pins : List (Addr × Obj)} {σ : St} {H : Hp} {s : Shared} {A : Around} {E : Value → Shared → Prop} {Q : Value → Shared → Prop} {c : Value} {b : Bool}
inductive TyOf (K : PySem.W.Frag) (H : Hp) : V → Value → Prop where
  | non : TyOf K H .non (.type "NoneType")
  | bl (x : Bool) : TyOf K H (.bl x) (.type "bool")
  | int (i : Int) : TyOf K H (.int i) (.type "int")
  | str (x : Str) : TyOf K H (.str x) (.type "str")
  | flt (x : UInt64) : TyOf K H (.flt x) (.type "float")
  | lst {a : Addr} {xs : List V} (e : H a = some (.lst xs)) : TyOf K H (.ref a) (.type "list")
  | frz {a : Addr} {o : Obj} {xs : List V} (e : H a = some (.frz o (.lst xs))) : TyOf K H (.ref a) (.type "list")
  | tup {a : Addr} {xs : List V} (e : H a = some (.tup xs)) : TyOf K H (.ref a) (.type "tuple")
  | dK {a : Addr} {kvs : List (Key × V)} (e : H a = some (.dK kvs)) : TyOf K H (.ref a) (.type "dict")
  | dT {a : Addr} {kvs : List (List Key × V)} (e : H a = some (.dT kvs)) : TyOf K H (.ref a) (.type "dict")
  | ins {a C dx : Addr} {fs : List (Str × V)} (e : H a = some (.ins C dx fs)) (cl : Cls K C) (ha : PySem.W.findIn K (.ref C) "__class__" = some (some (.builtin "object.__class__")))
      (hn : PySem.W.specialIn K (.builtin "object.__class__") "__get__" = some (some (.builtin "getset_descriptor.__get__"))) (htk : PySem.W.takesIn K (.builtin "object.__class__") = some true)
      (hm : PySem.W.mroIn K C (.type "object") = some true) : TyOf K H (.ref a) (.ref C)
theorem isinst_ok {x : V} {u t : Value} (I : Inv X pins σ H s) (rx : RelV x u) (ty : TyOf X.K H x t) (e : PySem.W.kitOne X.K t c = some b) (h : ∀ tk, Q (.bool b) { s with toks := tk }) :
    wpAny (model X.prog X.w) A (call (.builtin "isinstance") [u, c]) Q E s := by
  cases ty with
  | non => cases (show u = Value.none from rx); exact PySem.W.kia_one PySem.W.kitx_none I.kIn True.intro e (fun z => nomatch z) h
  | bl y => cases (show u = Value.bool y from rx); exact PySem.W.kia_one PySem.W.kitx_bool I.kIn True.intro e (fun z => nomatch z) h
  | int i => obtain ⟨t, q⟩ := (show ∃ t, u = Value.int i t from rx); cases q; exact PySem.W.kia_one PySem.W.kitx_int I.kIn True.intro e (fun z => nomatch z) h
  | str y => obtain ⟨t, q⟩ := (show ∃ t, u = Value.str y t from rx); cases q; exact PySem.W.kia_one PySem.W.kitx_str I.kIn True.intro e (fun z => nomatch z) h
  | flt y => obtain ⟨t, q⟩ := (show ∃ t, u = Value.float y t from rx); cases q; exact PySem.W.kia_one PySem.W.kitx_float I.kIn True.intro e (fun z => nomatch z) h
  | @lst a xs ea =>
    cases (show u = Value.ref a from rx)
    obtain ⟨_, _, n, _, h1⟩ := (show ObjOk X.prog X.w H s.heap a (.lst xs) from I.hok a _ ea)
    exact PySem.W.kia_one PySem.W.kitx_list I.kIn ⟨_, h1, rfl⟩ e (fun z => nomatch z) h
  | @frz a ob xs ea =>
    cases (show u = Value.ref a from rx)
    obtain ⟨_, _, _, n, _, h1⟩ := (show ObjOk X.prog X.w H s.heap a (.frz ob (.lst xs)) from I.hok a _ ea)
    exact PySem.W.kia_one PySem.W.kitx_list I.kIn ⟨_, h1, rfl⟩ e (fun z => nomatch z) h
  | @tup a xs ea =>
    cases (show u = Value.ref a from rx)
    obtain ⟨_, _, _, p⟩ := (show ObjOk X.prog X.w H s.heap a (.tup xs) from I.hok a _ ea)
    obtain ⟨o, h1, h2, _⟩ := p
    exact PySem.W.kia_one PySem.W.kitx_tuple I.kIn ⟨o, h1, h2⟩ e (fun z => nomatch z) h
  | @dK a kvs ea =>
    cases (show u = Value.ref a from rx)
    obtain ⟨_, _, vs, _, p⟩ := (show ObjOk X.prog X.w H s.heap a (.dK kvs) from I.hok a _ ea)
    obtain ⟨o, es, ep, h1, h2, _⟩ := p
    exact PySem.W.kia_one PySem.W.kitx_dict I.kIn ⟨o, h1, h2.1⟩ e (fun z => nomatch z) h
  | @dT a kvs ea =>
    cases (show u = Value.ref a from rx)
    obtain ⟨_, _, xs, _, o, es, ep, h1, h2, _⟩ := (show ObjOk X.prog X.w H s.heap a (.dT kvs) from I.hok a _ ea)
    exact PySem.W.kia_one PySem.W.kitx_dict I.kIn ⟨o, h1, h2.1⟩ e (fun z => nomatch z) h
  | @ins a C dx fs ea cl ha hn htk hm =>
    cases (show u = Value.ref a from rx)
    obtain ⟨mA, O, _⟩ := ins_get I.hok ea
    obtain ⟨od, J, _⟩ := O.look
    exact PySem.W.kia_one (PySem.W.kitx_own (cl.get _) cl.hd ha hn htk hm) I.kIn J e (fun z => nomatch z) h
end
end L2
namespace L2
open PySem PySem.Spec PyProof.Rows
structure Room (k : Nat) (A : Around) : Prop where
  hd : A.handled = none
  dp : A.depth + 3 * k + 5 < recursionLimit
  un : A.units + 16 * k + 200 < cLine
theorem Room.mono {j k : Nat} {A : Around} (r : Room k A) (h : j ≤ k) : Room j A := ⟨r.hd, by have := r.dp; omega, by have := r.un; omega⟩
theorem Room.deeper {k : Nat} {A : Around} (r : Room (k + 1) A) (env : Env) : Room k (A.deeper env) :=
  ⟨r.hd, by have := r.dp; show A.depth + 1 + 3 * k + 5 < _; omega, by have := r.un; show A.units + 3 + 16 * k + 200 < _; omega⟩
theorem make_depth {A : Around} {C : Addr} {us : List Value} {kw : List (Str × Value)} : (A.under (.builtin "type.__call__" ⟨.ref C :: us, kw⟩)).depth = A.depth + 1 := by
  first | rfl | simp [Around.under, Code.weight, Code.isCreation, Code.isGuard, Code.isCaller, Code.frames, Code.isFrame, guardIds]
theorem make_units {A : Around} {C : Addr} {us : List Value} {kw : List (Str × Value)} : (A.under (.builtin "type.__call__" ⟨.ref C :: us, kw⟩)).units = A.units + 1 := by
  first | rfl | simp [Around.under, Code.cUnits, Code.frames, Code.isFrame]
theorem Room.make {k : Nat} {A : Around} (r : Room (k + 1) A) (C : Addr) (us : List Value) (kw : List (Str × Value)) : Room k (A.under (.builtin "type.__call__" ⟨.ref C :: us, kw⟩)) :=
  ⟨r.hd, by have := r.dp; rw [make_depth]; omega, by have := r.un; rw [make_units]; omega⟩
theorem Room.depth {k : Nat} {A : Around} (r : Room k A) : A.depth < recursionLimit := by have := r.dp; omega
theorem Room.units {k : Nat} {A : Around} (r : Room k A) : A.units + 64 < cLine := by have := r.un; omega
def tNil : TA := fun _ H Q => Q [] H
def tCons (ta : TE) (tr : TA) : TA := fun σ H Q => ta σ H fun x H1 => tr σ H1 fun xs H2 => Q (x :: xs) H2
section
variable {X : Cx} {e : Expr} {es : List Expr} {te : TE} {t : TA} {pos : Pos}
theorem pa_nil : PA X [] tNil := fun _ _ _ _ H Q I h => Calls.spliced_nil ⟨[], H, I, .nil, h⟩
theorem pa_cons (ha : PE X e te) (hr : PA X es t) (hs : starEach (e :: es) X.env = (false, eval e X.env) :: starEach es X.env := by rfl) : PA X (e :: es) (tCons te t) := by
  intro pos pins s σ H Q I h
  rw [hs]
  show wpAny _ _ (spliced ((false, eval e X.env) :: backTo pos (starEach es X.env))) _ _ s
  refine Calls.spliced_cons (thn (ha pins s σ H _ I h) fun u s1 hm0 => ?_)
  obtain ⟨x, H1, I1, r1, q1⟩ := hm0
  refine thn (hr pos pins s1 σ H1 _ I1 q1) fun us s2 hm0 => ?_
  obtain ⟨xs, H2, I2, r2, q2⟩ := hm0
  exact ⟨x :: xs, H2, I2, .cons r1 r2, q2⟩
def tTup (t : TA) : TE := fun σ H Q => t σ H fun xs H1 => xs.length ≤ sizeLine ∧ ∀ p, H1 p = none → Q (.ref p) (upd H1 p (.tup xs))
def tLst (t : TA) : TE := fun σ H Q => t σ H fun xs H1 => xs.length ≤ sizeLine ∧ ∀ p, H1 p = none → Q (.ref p) (upd H1 p (.lst xs))
theorem pe_tup {x1} (h : PA X es t) : PE X (.Tuple es x1 pos) (tTup t) := by
  intro pins s σ H Q I hq
  refine wpAny_Tuple_spliced (thn (h pos pins s σ H _ I hq) fun us s1 hm0 => ?_)
  obtain ⟨xs, H1, I1, r, z, q⟩ := hm0
  refine ⟨by rw [← r.length]; exact z, ?_⟩
  have hf : H1 s1.heap.objs.size = none := I1.hok.fresh (Nat.le_refl _)
  refine ⟨.ref s1.heap.objs.size, upd H1 s1.heap.objs.size (.tup xs), I1.laid (t' := s1.toks) (fun b u e => Heap.get?_push_of_some _ e) (Nat.le_refl _) ?_, rfl, q _ hf⟩
  exact ⟨z, us, r, ⟨_, Heap.get?_push_size _ rfl, rfl, _, rfl⟩⟩
theorem pe_lst (h : PA X es t) : PE X (.List es pos) (tLst t) := by
  intro pins s σ H Q I hq
  refine wpAny_List_spliced (thn (h pos pins s σ H _ I hq) fun us s1 hm0 => ?_)
  obtain ⟨xs, H1, I1, r, z, q⟩ := hm0
  refine ⟨by rw [← r.length]; exact z, ?_⟩
  have hf : H1 s1.heap.objs.size = none := I1.hok.fresh (Nat.le_refl _)
  refine ⟨.ref s1.heap.objs.size, upd H1 s1.heap.objs.size (.lst xs), I1.laid (t' := s1.toks) (fun b u e => Heap.get?_push_of_some _ e) (Nat.le_refl _) ?_, rfl, q _ hf⟩
  exact ⟨z, us, 0, r, Heap.get?_push_size _ rfl⟩
end
abbrev Sp := List V → Hp → VK → XK → Prop
abbrev CXT := List Env → Hp → Shared → XK → Value → Shared → Prop
structure Env0 (P : Program) (w : World) (K : PySem.W.Frag) (mg : Str → Option Value) (base : Heap) (A : Around) (outer : List Env) (s : Shared) (H : Hp) : Prop where
  frames : A.frames = some outer
  mod : Mod K mg base
  bs : ∀ b o, base.get? b = some o → s.heap.get? b = some o ∧ H b = none
  bsz : base.objs.size ≤ s.heap.objs.size
  funs : s.heap.FunFrames base outer
  frf : ∀ b ∈ frs outer, H b = none
  hok : HOk P w H s.heap
  bare : AllBare s.gens
def CE (outer : List Env) (P : Program) (w : World) (H : Hp) (s : Shared) (Q : VK) (u : Value) (s' : Shared) : Prop :=
  ∃ v H', s'.os = s.os ∧ AllBare s'.gens ∧ Un (frs outer) [] H H' s.heap s'.heap ∧ HOk P w H' s'.heap ∧ RelV v u ∧ Q v H'
def CR (CX : CXT) (outer : List Env) (P : Program) (w : World) (H : Hp) (s : Shared) (Q : VK) (E : XK) (r : Result) (s' : Shared) : Prop :=
  match r with
  | .ok (.ret u) => CE outer P w H s Q u s'
  | .ok _ => False
  | .error e => CX outer H s E e s'
structure FnOk (P : Program) (w : World) (K : PySem.W.Frag) (mg : Str → Option Value) (base : Heap) (CX : CXT) (k : Nat) (f : Addr) (fd : FuncData) (ps : List Str) (sp : Sp) : Prop where
  len : ∀ vs H Q E, sp vs H Q E → vs.length = ps.length
  run : ∀ (A : Around) (outer : List Env) (s : Shared) (H : Hp) (args : Args) (us : List Value) (vs : List V) (Q : VK) (E : XK), Room k A → Env0 P w K mg base A outer s H → BindsTo s fd args (ps.zip us) → Vals vs us → sp vs H Q E →
    codeAny (model P w) A (.call (.ref f) args) (CR CX outer P w H s Q E) s
theorem Env0.make {P : Program} {w : World} {K : PySem.W.Frag} {mg : Str → Option Value} {base : Heap} {A : Around} {outer : List Env} {s : Shared} {H : Hp} (e : Env0 P w K mg base A outer s H) (C : Addr) (us : List Value) (kw : List (Str × Value)) :
    Env0 P w K mg base (A.under (.builtin "type.__call__" ⟨.ref C :: us, kw⟩)) outer s H := ⟨by first | exact e.frames | (simpa [Around.under, Code.envs, Code.isFrame, pushEnvs] using e.frames), e.mod, e.bs, e.bsz, e.funs, e.frf, e.hok, e.bare⟩
section
variable {X : Cx} {pins : List (Addr × Obj)} {σ : St} {H : Hp} {s s' : Shared}
theorem Inv.env0 (I : Inv X pins σ H s) : Env0 X.prog X.w X.K X.mg X.base X.A X.stack s H :=
  ⟨I.ok.frames, I.ok.mod, I.bs, Nat.le_trans I.ok.bsz I.sz, I.stack, I.stkFree, I.hok, I.bare⟩
theorem Inv.after {Q : VK} {u : Value} (I : Inv X pins σ H s) (h : CE X.stack X.prog X.w H s Q u s') : EP X pins σ Q u s' := by
  obtain ⟨v, H', os, bare, un, hok, r, q⟩ := h
  obtain ⟨hh, g, d, t, os'⟩ := s'
  obtain rfl : os' = s.os := os
  exact ⟨v, H', I.call (h' := hh) (g' := g) (d' := d) (t' := t) (ch := []) un hok bare (fun b z => absurd z (by simp)), r, q⟩
end
def tCall (sp : Sp) (dvs : List V) (E : XK) (t : TA) : TE := fun σ H Q => t σ H fun vs H1 => sp (vs ++ dvs) H1 Q E
def tMake (C : Addr) (sp : Sp) (dvs : List V) (E : XK) (t : TA) : TE := fun σ H Q => t σ H fun vs H1 => ∀ x dx, H1 x = none → H1 dx = none → dx ≠ x →
  sp (.ref x :: (vs ++ dvs)) (upd (upd H1 dx (.own x)) x (.ins C dx [])) (fun v H2 => v = .non ∧ Q (.ref x) H2) E
def Binds (K : PySem.W.Frag) (fd : FuncData) (ps : List Str) (ds : List Value) : Prop :=
  ∀ (s : Shared) (us : List Value), K.In s.heap → (us ++ ds).length = ps.length → BindsTo s fd ⟨us, []⟩ (ps.zip (us ++ ds))
theorem Binds.all {K : PySem.W.Frag} {fd : FuncData} {ps : List Str} (h : ∀ us : List Value, us.length = ps.length → bindArgs fd ⟨us, []⟩ = pure (ps.zip us)) : Binds K fd ps [] := fun s us _ hl => by
  rw [List.append_nil] at hl ⊢
  exact .of_eq (h us hl)
def Passes (CX : CXT) (X : Cx) (E : XK) : Prop := ∀ (pins : List (Addr × Obj)) (σ : St) (H : Hp) (s : Shared) (e : Value) (s' : Shared), Inv X pins σ H s → CX X.stack H s E e s' → X.xe e s'
section
variable {X : Cx} {CX : CXT} {k : Nat} {f C : Addr} {fd : FuncData} {ps : List Str} {sp : Sp} {dvs : List V} {ds : List Value} {E : XK} {x m : Str} {p pos apos : Pos} {e o : Expr} {es : List Expr} {ta : TE} {t : TA}
theorem run_fn {pins : List (Addr × Obj)} {σ : St} {H : Hp} {s : Shared} {Q : VK} {us : List Value} {vs : List V} (F : FnOk X.prog X.w X.K X.mg X.base CX k f fd ps sp) (hr : Room k X.A) (hb : Binds X.K fd ps ds) (hd : Vals dvs ds) (hx : Passes CX X E)
    (I : Inv X pins σ H s) (r : Vals vs us) (h : sp (vs ++ dvs) H Q E) : wpAny (model X.prog X.w) X.A (call (.ref f) us) (EP X pins σ Q) X.xe s := by
  have r2 : Vals (vs ++ dvs) (us ++ ds) := r.append hd
  have hl : (us ++ ds).length = ps.length := by rw [← r2.length]; exact F.len _ _ _ _ h
  refine wpAny_call (codeAny_mono (F.run X.A X.stack s H ⟨us, []⟩ (us ++ ds) (vs ++ dvs) Q E hr I.env0 (hb s us I.kIn hl) r2 h) fun r s' hq => ?_)
  cases r with
  | error e => exact hx pins σ H s e s' I hq
  | ok fl =>
    cases fl with
    | ret u => exact I.after hq
    | next => exact False.elim hq
    | brk => exact False.elim hq
    | cont => exact False.elim hq
theorem pe_call (F : FnOk X.prog X.w X.K X.mg X.base CX k f fd ps sp) (hr : Room k X.A) (hg : Gl X x) (hm : X.mg x = some (.ref f)) (hk : PySem.W.keepIn X.K (.ref f) = true) (hb : Binds X.K fd ps ds) (hd : Vals dvs ds) (hx : Passes CX X E)
    (ha : PA X (e :: es) t) (hdb : (x == ("__debug__" : Str)) = false := by decide) (he : starEach (e :: es) X.env = (false, eval e X.env) :: starEach es X.env := by rfl) (hpl : (backTo pos (starEach es X.env)).any (·.1) = false := by rfl) :
    PE X (.Call (.Name x p) (e :: es) [] pos) (tCall sp dvs E t) := by
  intro pins s σ H Q I h
  refine wpAny_Call_Name_kw (ld_glob I hg hm ?_ hdb)
  refine PySem.W.callWith_K (h₀ := X.base) I.ok.mod.kin hk (thn (ha pos pins s σ H _ I h) fun us s1 hm0 => ?_) he hpl
  obtain ⟨vs, H1, I1, r, q⟩ := hm0
  refine ⟨I1.kIn, ?_⟩
  exact run_fn F hr hb hd hx I1 r q
structure Mk (K : PySem.W.Frag) (C f : Addr) : Prop where
  makes : PySem.W.makesIn K C = true
  init : PySem.W.findIn K (.ref C) "__init__" = some (some (.ref f))
  fn : PySem.W.isFn K (.ref f) = true
  kp : PySem.W.keepIn K (.ref C) = true
theorem run_make {pins : List (Addr × Obj)} {σ : St} {H : Hp} {s : Shared} {Q : VK} {us : List Value} {vs : List V} (M : Mk X.K C f) (F : FnOk X.prog X.w X.K X.mg X.base CX k f fd ps sp) (hr : Room (k + 1) X.A) (hb : Binds X.K fd ps ds) (hd : Vals dvs ds)
    (hx : Passes CX X E) (I : Inv X pins σ H s) (r : Vals vs us)
    (h : ∀ x dx, H x = none → H dx = none → dx ≠ x → sp (.ref x :: (vs ++ dvs)) (upd (upd H dx (.own x)) x (.ins C dx [])) (fun v H2 => v = .non ∧ Q (.ref x) H2) E) :
    wpAny (model X.prog X.w) X.A (call (.ref C) us) (EP X pins σ Q) X.xe s := by
  have hq := h (s.heap.objs.size + 1) s.heap.objs.size (I.hok.fresh (Nat.le_succ _)) (I.hok.fresh (Nat.le_refl _)) (Nat.ne_of_lt (Nat.lt_succ_self _))
  have I2 := Inv.made (C := C) I
  have r2 : Vals (V.ref (s.heap.objs.size + 1) :: (vs ++ dvs)) (Value.ref (s.heap.objs.size + 1) :: (us ++ ds)) := .cons rfl (r.append hd)
  have hl : (Value.ref (s.heap.objs.size + 1) :: us ++ ds).length = ps.length := by
    have e := r2.length
    rw [F.len _ _ _ _ hq] at e
    exact e.symm
  refine wpAny_call (make_map (f := f) I.kIn M.makes M.init (beq_iff_eq.mp M.fn) (codeAny_mono (F.run _ X.stack _ _ ⟨Value.ref (s.heap.objs.size + 1) :: us, []⟩ (Value.ref (s.heap.objs.size + 1) :: (us ++ ds)) _ _ E (hr.make C us [])
    (I2.env0.make C us []) (hb _ (Value.ref (s.heap.objs.size + 1) :: us) I2.kIn hl) r2 hq) fun r s' hq' => ?_))
  cases r with
  | error e => exact hx pins σ _ _ e s' I2 hq'
  | ok fl =>
    cases fl with
    | ret u =>
      obtain ⟨v, H', I3, rv, ev, q3⟩ := I2.after hq'
      subst ev
      exact ⟨rv, ⟨V.ref (s.heap.objs.size + 1), H', I3, rfl, q3⟩⟩
    | next => exact False.elim hq'
    | brk => exact False.elim hq'
    | cont => exact False.elim hq'
theorem pe_make (M : Mk X.K C f) (F : FnOk X.prog X.w X.K X.mg X.base CX k f fd ps sp) (hr : Room (k + 1) X.A) (hg : Gl X x) (hm : X.mg x = some (.ref C)) (hb : Binds X.K fd ps ds) (hd : Vals dvs ds) (hx : Passes CX X E)
    (ha : PA X (e :: es) t) (hdb : (x == ("__debug__" : Str)) = false := by decide) (he : starEach (e :: es) X.env = (false, eval e X.env) :: starEach es X.env := by rfl) (hpl : (backTo pos (starEach es X.env)).any (·.1) = false := by rfl) :
    PE X (.Call (.Name x p) (e :: es) [] pos) (tMake C sp dvs E t) := by
  intro pins s σ H Q I h
  refine wpAny_Call_Name_kw (ld_glob I hg hm ?_ hdb)
  refine PySem.W.callWith_K (h₀ := X.base) I.ok.mod.kin M.kp (thn (ha pos pins s σ H _ I h) fun us s1 hm0 => ?_) he hpl
  obtain ⟨vs, H1, I1, r, q⟩ := hm0
  refine ⟨I1.kIn, ?_⟩
  exact run_make M F hr hb hd hx I1 r q
end
section
variable {X : Cx} {CX : CXT} {k : Nat} {f C : Addr} {fd : FuncData} {ps ks : List Str} {sp : Sp} {E : XK} {x m : Str} {p pos apos kpos : Pos} {e o : Expr} {es : List Expr} {kws : List Keyword} {te ta : TE} {t tk : TA} {nm : Option Str}
variable {g : List Value → List Value → List Value} {gV : List V → List V → List V}
end
structure FnScope (N P : List Str) (sc : Scope) : Prop where
  kind : sc.kind = .function
  co : sc.isCoroutine = false
  gen : sc.isGenerator = false
  nd : N.Nodup
  pre : N.take P.length = P
  par : ∀ x ∈ P, sc.names.lookup x = some .local ∨ sc.names.lookup x = some .cell
  nofree : ∀ y ∈ sc.names, y.2 ≠ .free
theorem bindL_out {kindOf : Str → Option NameKind} {x : Str} : ∀ {binds : List (Str × Value)} {m : Str → Option Value}, (∀ v, (x, v) ∉ binds) → bindL kindOf binds m x = m x
  | [], _, _ => rfl
  | (n, v) :: r, m, h => by
    unfold bindL
    rw [bindL_out fun w hw => h w (List.mem_cons_of_mem _ hw)]
    split
    · have : x ≠ n := by rintro rfl; exact h v List.mem_cons_self
      simp [this]
    · rfl
theorem bindC_out {kindOf : Str → Option NameKind} {x : Str} : ∀ {binds : List (Str × Value)} {m : Str → Option Value}, (∀ v, (x, v) ∉ binds) → bindC kindOf binds m x = m x
  | [], _, _ => rfl
  | (n, v) :: r, m, h => by
    unfold bindC
    rw [bindC_out fun w hw => h w (List.mem_cons_of_mem _ hw)]
    split
    · rfl
    · have : x ≠ n := by rintro rfl; exact h v List.mem_cons_self
      simp [this]
theorem bindL_get {kindOf : Str → Option NameKind} {x : Str} {v : Value} : ∀ {P : List Str} {vs : List Value} {i : Nat} {m : Str → Option Value}, P.Nodup → P[i]? = some x → vs[i]? = some v → kindOf x = some .local →
    bindL kindOf (P.zip vs) m x = some v
  | [], _, _, _, _, h, _, _ => by simp at h
  | _ :: _, [], _, _, _, _, h, _ => by simp at h
  | p :: P, w :: vs, 0, m, nd, h1, h2, hk => by
    simp at h1 h2; subst h1; subst h2
    show bindL kindOf ((p, w) :: P.zip vs) m p = _
    unfold bindL
    rw [bindL_out fun v hv => (List.nodup_cons.mp nd).1 (List.of_mem_zip hv).1, if_pos hk]
    simp
  | p :: P, w :: vs, i + 1, m, nd, h1, h2, hk => by
    show bindL kindOf ((p, w) :: P.zip vs) m x = _
    unfold bindL
    exact bindL_get (i := i) (List.nodup_cons.mp nd).2 (by simpa using h1) (by simpa using h2) hk
theorem bindC_get {kindOf : Str → Option NameKind} {x : Str} {v : Value} : ∀ {P : List Str} {vs : List Value} {i : Nat} {m : Str → Option Value}, P.Nodup → P[i]? = some x → vs[i]? = some v → kindOf x ≠ some .local →
    bindC kindOf (P.zip vs) m x = some v
  | [], _, _, _, _, h, _, _ => by simp at h
  | _ :: _, [], _, _, _, _, h, _ => by simp at h
  | p :: P, w :: vs, 0, m, nd, h1, h2, hk => by
    simp at h1 h2; subst h1; subst h2
    show bindC kindOf ((p, w) :: P.zip vs) m p = _
    unfold bindC
    rw [bindC_out fun v hv => (List.nodup_cons.mp nd).1 (List.of_mem_zip hv).1, if_neg hk]
    simp
  | p :: P, w :: vs, i + 1, m, nd, h1, h2, hk => by
    show bindC kindOf ((p, w) :: P.zip vs) m x = _
    unfold bindC
    exact bindC_get (i := i) (List.nodup_cons.mp nd).2 (by simpa using h1) (by simpa using h2) hk
def start (N : List Str) (vs : List V) : St := vs.map some ++ List.replicate (N.length - vs.length) none
def cxOf (CX : CXT) (P : Program) (w : World) (K : PySem.W.Frag) (mg : Str → Option Value) (base : Heap) (N : List Str) (qual : Str) (scope : Scope) (f : Addr) (cd : Value) (A : Around) (outer : List Env) (s : Shared) (H : Hp) (E : XK) : Cx where
  prog := P
  w := w
  K := K
  mg := mg
  base := base
  A := A.deeper (envOfC qual scope s.heap.objs.size f cd)
  N := N
  s₀ := s
  H₀ := H
  env := envOfC qual scope s.heap.objs.size f cd
  outer := outer
  stack := envOfC qual scope s.heap.objs.size f cd :: outer
  ex := []
  calm := true
  fn := fun _ => true
  pn := []
  xe := fun e s' => wpAny (model P w) (A.deeper (envOfC qual scope s.heap.objs.size f cd)) (leaving (envOfC qual scope s.heap.objs.size f cd) e) (fun _ s'' => CX outer H s E e s'') (fun e' s'' => CX outer H s E e' s'') s'
theorem cell_has {sc : Scope} {n : Nat} {x : Str} (h : sc.names.lookup x = some .cell) : ∃ c, (cellsFrom n sc.names []).lookup x = some c := by
  have q := PySem.W.cellsFrom_some sc.names n [] (.inl h)
  exact Option.isSome_iff_exists.mp q
theorem inv_start {CX : CXT} {P : Program} {w : World} {K : PySem.W.Frag} {mg : Str → Option Value} {base : Heap} {N ps : List Str} {qual : Str} {scope : Scope} {f : Addr} {cd : Value} {A : Around} {outer : List Env} {s s1 : Shared} {H : Hp} {E : XK} {us : List Value} {vs : List V}
    (S : FnScope N ps scope) (hd : A.handled = none) (e0 : Env0 P w K mg base A outer s H) (hl : vs.length = ps.length) (r : Vals vs us)
    (x : InCallC s s.heap.objs.size (bindL (envOfC qual scope s.heap.objs.size f cd).kindOf (ps.zip us) fun _ => none) (cellsFrom (s.heap.objs.size + 1) scope.names []) (bindC (envOfC qual scope s.heap.objs.size f cd).kindOf (ps.zip us) fun _ => none) s1) :
    Inv (cxOf CX P w K mg base N qual scope f cd A outer s H E) [] (start N vs) H s1 := by
  have hpl : ps.length ≤ N.length := by have := congrArg List.length S.pre; rw [List.length_take] at this; omega
  obtain ⟨h1, tk, rfl, hk⟩ := x.done
  have noA : ∀ b : Addr, b ∉ (cxOf CX P w K mg base N qual scope f cd A outer s H E).ex := fun b z => absurd (show b ∈ ([] : List Addr) from z) (by simp)
  refine ⟨⟨e0.mod, S.kind, rfl, rfl, Nat.le_refl _, fun y z c h1 h2 => ?_, fun y hy => ?_, fun y c _ h => ?_, fun _ => hd, Around.frames_deeper e0.frames, .inr ⟨rfl, rfl⟩, fun b z => absurd z (noA b), e0.bs, e0.bsz, fun b _ _ => noA b, fun b z => absurd z (noA b), e0.funs, e0.frf⟩,
    rfl, e0.bare, Un.kept hk, ⟨_, x.toInCall.ns, fun i y v h1 h2 h3 => ?_⟩, fun y c h => ⟨_, x.cell y c h⟩, e0.hok.fresh (Nat.le_refl _), fun y c h => ?_, fun p hp => absurd (show p ∈ ([] : List (Addr × Obj)) from hp) (by simp), e0.hok.kept hk, ?_⟩
  · exact name_of_addr x.apart (PySem.mem_of_lookup h1) (PySem.mem_of_lookup h2)
  · have hy : scope.names.lookup y = some .cell ∨ scope.names.lookup y = some .free := hy
    rcases hy with hy | hy
    · exact cell_has hy
    · exact absurd rfl (S.nofree _ (PySem.mem_of_lookup hy))
  · exact Nat.le_of_lt (x.above y c (PySem.mem_of_lookup h))
  · have hi : i < vs.length := by
      unfold start at h2
      by_cases hi : i < vs.length
      · exact hi
      · rw [List.getElem?_append_right (by simpa using hi)] at h2
        rw [List.getElem?_replicate] at h2
        split at h2 <;> cases h2
    have ha : vs[i]? = some v := by
      unfold start at h2
      rw [List.getElem?_append_left (by simpa using hi), List.getElem?_map] at h2
      cases e : vs[i]? with
      | none => rw [e] at h2; cases h2
      | some a => rw [e] at h2; cases h2; rfl
    obtain ⟨u, hu, rv⟩ := r.get ha
    have hp : ps[i]? = some y := by
      rw [← S.pre, List.getElem?_take_of_lt (by omega)]; exact h1
    have ndP : ps.Nodup := by rw [← S.pre]; exact S.nd.sublist (List.take_sublist _ _)
    refine ⟨u, rv, ?_⟩
    rcases S.par y (List.mem_of_getElem? hp) with k | k
    · exact .inl ⟨k, bindL_get ndP hp hu k⟩
    · obtain ⟨c, e⟩ := cell_has (n := s.heap.objs.size + 1) k
      refine .inr ⟨.inl k, c, e, ?_⟩
      have q := x.cell y c e
      rw [bindC_get ndP hp hu (by show scope.names.lookup y ≠ _; rw [k]; decide)] at q
      exact q
  · exact e0.hok.fresh (Nat.le_of_lt (x.above y c (PySem.mem_of_lookup h)))
  · unfold start
    show _ = N.length
    rw [List.length_append, List.length_map, List.length_replicate]
    omega
theorem fn_of {CX : CXT} {P : Program} {w : World} {K : PySem.W.Frag} {mg : Str → Option Value} {base : Heap} {k : Nat} {f : Addr} {name qual : Str} {params : Arguments} {body : List Stmt} {scope : Scope} {dV kV doc pm cdv ct oc : Value} {an od : Option Addr}
    {osl : Array (Option Value)} {N ps : List Str} {sp : Sp} (lk : K.lookup f = some ⟨oc, od, .func (PySem.W.fnOf name qual params body scope dV kV doc pm an cdv ct), osl⟩) (hcd : PySem.W.codeIn K cdv qual = true) (S : FnScope N ps scope)
    (len : ∀ vs H Q E, sp vs H Q E → vs.length = ps.length)
    (hbody : ∀ (A : Around) (outer : List Env) (s : Shared) (H : Hp) (vs : List V) (Q : VK) (E : XK), Room k (A.deeper (envOfC qual scope s.heap.objs.size f cdv)) → sp vs H Q E →
      ∃ t, PSs (cxOf CX P w K mg base N qual scope f cdv A outer s H E) body t ∧ t { nx := fun _ H' => Q .non H', rt := Q } (start N vs) H) :
    FnOk P w K mg base CX (k + 1) f (PySem.W.fnOf name qual params body scope dV kV doc pm an cdv ct) ps sp := by
  refine ⟨len, fun A outer s H args us vs Q E hr e0 hb r hsp => ?_⟩
  have hl := len _ _ _ _ hsp
  have KX : K.In s.heap := e0.mod.kin.keeps fun b o e => (e0.bs b o e).1
  have lim : s.heap.NoLimit := e0.mod.nolimit.keeps fun b o e => (e0.bs b o e).1
  have hkind : ∀ y ∈ ps.zip us, scope.names.lookup y.1 = some .local ∨ (scope.names.lookup y.1 = some .cell ∧ ((cellsFrom (s.heap.objs.size + 1) scope.names []).lookup y.1).isSome = true) := fun ⟨n, v⟩ hy => by
    rcases S.par n (List.of_mem_zip hy).1 with q | q
    · exact .inl q
    · exact .inr ⟨q, PySem.W.cellsFrom_some _ _ _ (.inl q)⟩
  refine codeAny_call_function hr.depth (KX _ _ lk) rfl S.co S.gen rfl (PySem.W.codeRec_of KX hcd) (hb _ _ _ _ ?_)
  refine wpAny_newFunctionEnv_cells S.kind hkind fun env he s1 x => ?_
  subst he
  refine ⟨lim.keeps x.toInCall.keep, codeAny_func ?_⟩
  obtain ⟨t, ht, hq⟩ := hbody A outer s H vs Q E (hr.deeper _) hsp
  have I : Inv (cxOf CX P w K mg base N qual scope f cdv A outer s H E) [] (start N vs) H s1 := inv_start S hr.hd e0 hl r x
  refine wpAny_mono (ht [] s1 (start N vs) H _ I hq) (fun fl s' hs => ?_) fun e s' hs => hs
  have fin : ∀ {σ' : St} {H' : Hp} {v : V} {u : Value}, Inv (cxOf CX P w K mg base N qual scope f cdv A outer s H E) [] σ' H' s' → RelV v u → Q v H' → CE outer P w H s Q u s' :=
    fun {σ' H' v u} J rv q => ⟨v, H', J.os, J.bare, J.base, J.hok, rv, q⟩
  cases fl with
  | ret u =>
    obtain ⟨v, σ', H', J, rv, q⟩ := hs
    exact fin J rv q
  | next =>
    obtain ⟨σ', H', J, q⟩ := hs
    exact fin (v := V.non) (u := Value.none) J rfl q
  | brk =>
    obtain ⟨_, _, _, q⟩ := hs
    exact False.elim q
  | cont =>
    obtain ⟨_, _, _, q⟩ := hs
    exact False.elim q
end L2
namespace L2
open PySem PySem.Spec PyProof.Rows
section
variable {X : Cx} {x : Str} {p pos : Pos} {e : Expr} {es : List Expr} {t : TA} {id T : String} {r : List V → Hp → VK → Prop}
def tCB (r : List V → Hp → VK → Prop) (t : TA) : TE := fun σ H Q => t σ H fun vs H1 => r vs H1 Q
theorem pe_callB (hc : CallR X (.builtin id) r) (hg : Gl X x) (hm : X.mg x = none) (hv : bootBuiltins x = some (.builtin id)) (ha : PA X (e :: es) t) (hn : x ≠ "__name__" := by decide) (hdb : (x == ("__debug__" : Str)) = false := by decide)
    (he : starEach (e :: es) X.env = (false, eval e X.env) :: starEach es X.env := by rfl) (hpl : (backTo pos (starEach es X.env)).any (·.1) = false := by rfl) : PE X (.Call (.Name x p) (e :: es) [] pos) (tCB r t) := by
  intro pins s σ H Q I h
  refine wpAny_Call_Name_kw (ld_blt I hg hm hv ?_ hn hdb)
  refine PyProof.Rows.callWith_builtin1 (thn (ha pos pins s σ H _ I h) fun us s1 hm0 => ?_) he hpl
  obtain ⟨vs, H1, I1, r1, q1⟩ := hm0
  exact hc pins s1 σ H1 vs us Q I1 r1 q1
theorem pe_callTy (hc : CallR X (.type T) r) (hg : Gl X x) (hm : X.mg x = none) (hv : bootBuiltins x = some (.type T)) (ha : PA X (e :: es) t) (hn : x ≠ "__name__" := by decide) (hdb : (x == ("__debug__" : Str)) = false := by decide)
    (he : starEach (e :: es) X.env = (false, eval e X.env) :: starEach es X.env := by rfl) (hpl : (backTo pos (starEach es X.env)).any (·.1) = false := by rfl) : PE X (.Call (.Name x p) (e :: es) [] pos) (tCB r t) := by
  intro pins s σ H Q I h
  refine wpAny_Call_Name_kw (ld_blt I hg hm hv ?_ hn hdb)
  refine PyProof.Rows.callWith_type1 (thn (ha pos pins s σ H _ I h) fun us s1 hm0 => ?_) he hpl
  obtain ⟨vs, H1, I1, r1, q1⟩ := hm0
  exact hc pins s1 σ H1 vs us Q I1 r1 q1
end
end L2
namespace HT
open PySem PyProof.Rows
section
open PySem.SeqAt
open PySem.AutoSeq1 (wpAny_loadPart')
open PySem.MeetsSeq PySem.MeetsSeq2 PySem.MeetsSeq3
end
section
variable {prog : Program} {w : World} {A : Around} {E : Value → Shared → Prop} {s : Shared}
def sIx (n d : Nat) : Option Int → Nat
  | none => d
  | some v => if v < 0 then (v + (n : Int)).toNat else min v.toNat n
theorem sIx_none (n d : Nat) : sIx n d none = d := rfl
theorem sIx_nat (n d k : Nat) : sIx n d (some (k : Int)) = min k n := by
  show (if (k : Int) < 0 then ((k : Int) + (n : Int)).toNat else min (k : Int).toNat n) = min k n
  rw [if_neg (by omega), Int.toNat_natCast]
theorem sIx_le (n d : Nat) (hd : d ≤ n) (o : Option Int) : sIx n d o ≤ n := by
  cases o with
  | none => exact hd
  | some v =>
    show (if v < 0 then (v + (n : Int)).toNat else min v.toNat n) ≤ n
    by_cases hv : v < 0
    · rw [if_pos hv]; omega
    · rw [if_neg hv]; exact Nat.min_le_right _ _
theorem clip_eq (v : Int) (n d : Nat) : (if v < 0 then max (v + (n : Int)) 0 else min v (n : Int)) = ((sIx n d (some v) : Nat) : Int) := by
  show (if v < 0 then max (v + (n : Int)) 0 else min v (n : Int)) = (((if v < 0 then (v + (n : Int)).toNat else min v.toNat n) : Nat) : Int)
  by_cases hv : v < 0
  · simp only [if_pos hv]; omega
  · simp only [if_neg hv]; omega
theorem adjust_gen (lo hi : Option Int) (n : Nat) : Builtin.Slice.sliceAdjust lo hi 1 (n : Int) = (((sIx n 0 lo : Nat) : Int), ((sIx n n hi : Nat) : Int)) := by
  have h1 : ¬ ((1 : Int) < 0) := by omega
  unfold Builtin.Slice.sliceAdjust
  simp only [h1, if_false]
  refine Prod.ext ?_ ?_
  · cases lo with
    | none => rfl
    | some v => exact clip_eq v n 0
  · cases hi with
    | none => rfl
    | some v => exact clip_eq v n n
theorem places_gen (i j : Nat) : Builtin.Slice.slicePlaces (i : Int) (j : Int) 1 = j - i := by
  unfold Builtin.Slice.slicePlaces
  have h1 : (1 : Int) > 0 := by omega
  simp only [h1, if_true, Int.ediv_one]
  split <;> omega
theorem slicePart_ {v : Value} {o : Option Int} {Q : Option Int → Shared → Prop} (p : IsPart v o) (h : Q o s) : wpAny (model prog w) A (Builtin.Slice.slicePartIndex v) Q E s := by
  cases p with
  | none => exact slicePart_none h
  | int i t => exact slicePart_int h
theorem sliceApplied_gen {sl : Addr} {vl vu : Value} {lo hi : Option Int} {n : Nat} {Q : Int × Int × Nat → Shared → Prop} (hs : s.heap.IsSliceOf sl vl vu .none) (pl : IsPart vl lo) (pu : IsPart vu hi)
    (h : Q (((sIx n 0 lo : Nat) : Int), 1, sIx n n hi - sIx n 0 lo) s) : wpAny (model prog w) A (Builtin.Slice.sliceApplied (.ref sl) (pure (n : Int))) Q E s := by
  obtain ⟨os, hos, hcs, hds⟩ := id hs
  unfold Builtin.Slice.sliceApplied Builtin.Slice.sliceFields
  refine wpAny_bind (wpAny_bind (wpAny_field hos hds (x := vl) rfl (wpAny_bind (wpAny_field hos hds (x := vu) rfl (wpAny_bind (wpAny_field hos hds (x := .none) rfl (wpAny_pure ?_)))))))
  refine wpAny_bind (slicePart_none ?_)
  show wpAny _ _ (if ((1 : Int) == 0) = true then _ else _) _ _ s
  rw [if_neg (by decide)]
  refine wpAny_bind (slicePart_ pl (wpAny_bind (slicePart_ pu (wpAny_bind (wpAny_pure ?_)))))
  show wpAny _ _ (match Builtin.Slice.sliceAdjust lo hi 1 (n : Int) with | (lo, hi) => pure (lo, (1 : Int), Builtin.Slice.slicePlaces lo hi 1)) _ _ s
  rw [adjust_gen lo hi n]
  show wpAny _ _ (pure (((sIx n 0 lo : Nat) : Int), (1 : Int), Builtin.Slice.slicePlaces ((sIx n 0 lo : Nat) : Int) ((sIx n n hi : Nat) : Int) 1)) _ _ s
  rw [places_gen]
  exact wpAny_pure h
theorem pick_gen (xs : Array Value) (i k : Nat) : ((List.range k).filterMap fun (m : Nat) => xs[((i : Int) + (m : Int) * 1).toNat]?).toArray = ((xs.toList.drop i).take k).toArray := by
  have e : (fun (m : Nat) => xs[((i : Int) + (m : Int) * 1).toNat]?) = fun m => xs[i + m]? := by
    funext m
    have : ((i : Int) + (m : Int) * 1).toNat = i + m := by omega
    rw [this]
  rw [e]
  have := pick_run xs i k
  rw [List.filterMap_map] at this
  have e2 : ((fun x => xs[x]?) ∘ fun x => i + x) = fun m => xs[i + m]? := rfl
  rw [e2] at this
  rw [this]
theorem getItem_tuple_cut {t sl : Addr} {items : Array Value} {vl vu : Value} {lo hi : Option Int} {Q : Value → Shared → Prop} (ht : IsTup s.heap t items) (hs : s.heap.IsSliceOf sl vl vu .none) (pl : IsPart vl lo) (pu : IsPart vu hi)
    (hw : ¬ (sIx items.size 0 lo = 0 ∧ sIx items.size items.size hi = items.size))
    (h : Q (.ref s.heap.objs.size) { s with heap := s.heap.push { cls := .type "tuple", data := .seq ((items.toList.drop (sIx items.size 0 lo)).take (sIx items.size items.size hi - sIx items.size 0 lo)).toArray } })
    (hsz : items.size ≤ sizeLine) : wpAny (model prog w) A (getItem (.ref t) (.ref sl)) Q E s := by
  have htake : sizeOk (.seq ((items.toList.drop (sIx items.size 0 lo)).take (sIx items.size items.size hi - sIx items.size 0 lo)).toArray) := by
    show ((items.toList.drop (sIx items.size 0 lo)).take (sIx items.size items.size hi - sIx items.size 0 lo)).toArray.size ≤ sizeLine
    rw [List.size_toArray, List.length_take, List.length_drop, Array.length_toList]
    omega
  have hj : sIx items.size items.size hi ≤ items.size := sIx_le _ _ (Nat.le_refl _) hi
  obtain ⟨os, hos, hcs, hds⟩ := id hs
  have hTs : s.TypeIs (.ref sl) "slice" := ⟨os, hos, hcs⟩
  unfold getItem
  try with_reducible refine wpAny_holding ?_
  first | refine wpAny_bind (wpAny_pure ?_) | skip
  refine wpAny_bind (wpAny_sequenceKey ht.typeIs (by decide) ?_)
  refine wpAny_bind (wpAny_callSpecial?_slot (name := Str.ofString "__getitem__") ht.typeIs PyProof.Rows.slot_tuple_getitem
    (wpAny_call_entry PyProof.Rows.slot_tuple_getitem ht.typeIs entry_tuple_getitem ?_ (args_tuple_getitem _ _)))
  show wpAny _ _ (Builtin.Tuple.tupleItemsOf (.ref t) >>= _) _ _ s
  refine wpAny_bind (tupleItemsOf_ ht ?_)
  refine wpAny_bind (wpAny_typeOf hTs ?_)
  rw [if_pos (by decide)]
  refine wpAny_bind (sliceApplied_gen hs pl pu ?_)
  have hno : ¬ ((((sIx items.size 0 lo : Nat) : Int) == 0 && (1 : Int) == 1 && (sIx items.size items.size hi - sIx items.size 0 lo) == items.size) = true) := by
    intro q
    rw [Bool.and_eq_true, Bool.and_eq_true] at q
    have q1 : ((sIx items.size 0 lo : Nat) : Int) = 0 := eq_of_beq q.1.1
    have q2 : sIx items.size items.size hi - sIx items.size 0 lo = items.size := eq_of_beq q.2
    exact hw ⟨by omega, by omega⟩
  show wpAny _ _ (if (((sIx items.size 0 lo : Nat) : Int) == 0 && (1 : Int) == 1 && (sIx items.size items.size hi - sIx items.size 0 lo) == items.size) = true then _ else _) _ _ s
  rw [if_neg hno, pick_gen]
  first
    | exact wpAny_bind (m := Builtin.Tuple.tupleExact _) (wpAny_newObj_type (wpAny_pure ⟨_, rfl, wpAny_pure h⟩) htake)
    | exact wpAny_bind (m := Builtin.Tuple.tupleExact _) (wpAny_newObj_type (wpAny_bind (wpAny_pure (wpAny_pure ⟨_, rfl, wpAny_pure h⟩))) htake)
    | exact wpAny_bind (wpAny_bind (m := Builtin.Tuple.tupleExact _) (wpAny_newObj_type (wpAny_pure (wpAny_pure ⟨_, rfl, wpAny_pure h⟩)) htake))
    | exact wpAny_bind (wpAny_bind (m := Builtin.Tuple.tupleExact _) (wpAny_newObj_type (wpAny_pure ⟨_, rfl, wpAny_pure h⟩) htake))
end
end HT
namespace L2
open PySem PySem.Spec PyProof.Rows
abbrev TO := St → Hp → (Option Int → Hp → Prop) → Prop
def PO (X : Cx) (e : Option Expr) (t : TO) : Prop :=
  ∀ (pins : List (Addr × Obj)) (s : Shared) (σ : St) (H : Hp) (Q : Option Int → Hp → Prop), Inv X pins σ H s → t σ H Q →
    wpAny (model X.prog X.w) X.A (evalPart e X.env) (fun u s' => ∃ o H', Inv X pins σ H' s' ∧ IsPart u o ∧ Q o H') X.xe s
def tNoPart : TO := fun _ H Q => Q none H
def tPart (t : TE) : TO := fun σ H Q => t σ H fun x H1 => ∃ i, x = .int i ∧ Q (some i) H1
section
variable {X : Cx} {e : Expr} {te : TE} {lo hi : Option Expr} {tl th : TO} {pos p2 : Pos}
theorem po_none : PO X none tNoPart := by
  intro pins s σ H Q I h
  rw [evalPart_none]
  exact wpAny_pure ⟨none, H, I, .none, h⟩
theorem po_some (h : PE X e te) : PO X (some e) (tPart te) := by
  intro pins s σ H Q I hw
  rw [evalPart_some]
  refine thn (h pins s σ H _ I hw) fun u s1 hm0 => ?_
  obtain ⟨x, H1, I1, r1, q1⟩ := hm0
  obtain ⟨i, rfl, q⟩ := q1
  obtain ⟨t, rfl⟩ := r1
  exact ⟨some i, H1, I1, .int i t, q⟩
def SlR (X : Cx) (r : V → Option Int → Option Int → Hp → VK → Prop) : Prop :=
  ∀ (pins : List (Addr × Obj)) (s : Shared) (σ : St) (H : Hp) (x : V) (v vl vu : Value) (lo hi : Option Int) (sl : Addr) (Q : VK), Inv X pins σ H s → RelV x v → s.heap.IsSliceOf sl vl vu .none → IsPart vl lo → IsPart vu hi → r x lo hi H Q →
    ∃ T id, typeLookup (.type T) "__getitem__" = pure (some (.builtin id)) ∧ s.TypeIs v T ∧ wpAny (model X.prog X.w) X.A (getItem v (.ref sl)) (EP X pins σ Q) X.xe s
def tSl (r : V → Option Int → Option Int → Hp → VK → Prop) (te : TE) (tl th : TO) : TE := fun σ H Q => te σ H fun x H1 => tl σ H1 fun l H2 => th σ H2 fun u H3 => r x l u H3 Q
theorem pe_slice {r : V → Option Int → Option Int → Hp → VK → Prop} (hr : SlR X r) (he : PE X e te) (hl : PO X lo tl) (hu : PO X hi th) : PE X (.Subscript e (.Slice lo hi none p2) pos) (tSl r te tl th) := by
  intro pins s σ H Q I h
  refine Subscript_ (thn (he pins s σ H _ I h) fun v s1 hm0 => ?_)
  obtain ⟨x, H1, I1, r1, q1⟩ := hm0
  refine wpAny_Slice (thn (hl pins s1 σ H1 _ I1 q1) fun vl s2 hm0 => ?_)
  obtain ⟨l, H2, I2, pl, q2⟩ := hm0
  refine thn (hu pins s2 σ H2 _ I2 q2) fun vu s3 hm1 => ?_
  obtain ⟨u, H3, I3, pu, q3⟩ := hm1
  rw [evalPart_none]
  refine wpAny_pure ?_
  have I4 : Inv X pins σ H3 { s3 with heap := s3.heap.push { cls := .type "slice", data := .fields #[vl, vu, .none] } } := I3.kept (t' := s3.toks) fun b ob q => Heap.get?_push_of_some _ q
  obtain ⟨T, id, hT, ht, hg⟩ := hr pins { s3 with heap := s3.heap.push { cls := .type "slice", data := .fields #[vl, vu, .none] } } σ H3 x v vl vu l u s3.heap.objs.size Q I4 r1 (Heap.IsSliceOf.new ..) pl pu q3
  show wpAny (model X.prog X.w) X.A (subscriptTail e (.Slice lo hi none p2) v (.ref s3.heap.objs.size)) (EP X pins σ Q) X.xe { s3 with heap := s3.heap.push { cls := .type "slice", data := .fields #[vl, vu, .none] } }
  exact tail_any (ops := [.ref s3.heap.objs.size, v]) ht hT hg (by with_unfolding_all rfl)
def cutV (xs : List V) (lo hi : Option Int) : List V := (xs.drop (HT.sIx xs.length 0 lo)).take (HT.sIx xs.length xs.length hi - HT.sIx xs.length 0 lo)
theorem cutV_length (xs : List V) (lo hi : Option Int) : (cutV xs lo hi).length ≤ xs.length := by
  unfold cutV
  rw [List.length_take, List.length_drop]
  omega
def rSlT (K : PySem.W.Frag) : V → Option Int → Option Int → Hp → VK → Prop := fun x lo hi H Q => ∃ a xs, x = .ref a ∧ SqT K H a xs ∧
  ¬ (HT.sIx xs.length 0 lo = 0 ∧ HT.sIx xs.length xs.length hi = xs.length) ∧ ∀ p, H p = none → Q (.ref p) (upd H p (.tup (cutV xs lo hi)))
theorem sl_tup : SlR X (rSlT X.K) := by
  intro pins s σ H x v vl vu lo hi sl Q I rx hs pl pu h
  obtain ⟨a, xs, rfl, hx, hw, q⟩ := h
  cases rx
  obtain ⟨its, r, ht, hz⟩ := I.tuple hx
  have hlen : its.toArray.size = xs.length := by rw [List.size_toArray]; exact r.length.symm
  refine ⟨"tuple", _, PyProof.Rows.slot_tuple_getitem.lookup, ht.typeIs, ?_⟩
  refine HT.getItem_tuple_cut ht hs pl pu (by rw [hlen]; exact hw) ?_ (by rw [hlen]; exact hz)
  rw [hlen]
  refine ⟨.ref s.heap.objs.size, _, I.laid (t' := s.toks) (o := .tup (cutV xs lo hi)) (fun b ob q => Heap.get?_push_of_some _ q) (Nat.le_refl _) ?_, rfl, q _ (I.hok.fresh (Nat.le_refl _))⟩
  exact ⟨Nat.le_trans (cutV_length xs lo hi) hz, _, (r.drop (HT.sIx xs.length 0 lo)).take (HT.sIx xs.length xs.length hi - HT.sIx xs.length 0 lo), IsTup.new _ _⟩
end
end L2
namespace L2
open PySem PySem.Spec PyProof.Rows
def ixN (n : Nat) (i : Int) : Option Nat := if 0 ≤ i then (if i < n then some i.toNat else none) else if -(n : Int) ≤ i then some (i + n).toNat else none
def atI {α : Type} (xs : List α) (i : Int) : Option α := (ixN xs.length i).bind fun j => xs[j]?
theorem ixN_seq {n : Nat} {i : Int} {j : Nat} (h : ixN n i = some j) : seqIndex? i n = some j ∧ j < n ∧ -(n : Int) ≤ i ∧ i < n := by
  unfold ixN at h
  by_cases h0 : 0 ≤ i
  · rw [if_pos h0] at h
    by_cases h1 : i < n
    · rw [if_pos h1] at h
      have e : i.toNat = j := Option.some.inj h
      exact ⟨by rw [seqIndex_of h0 h1, e], by omega, by omega, h1⟩
    · rw [if_neg h1] at h; cases h
  · rw [if_neg h0] at h
    by_cases h1 : -(n : Int) ≤ i
    · rw [if_pos h1] at h
      have e : (i + n).toNat = j := Option.some.inj h
      exact ⟨by rw [seqIndex_neg (by omega) h1, e], by omega, h1, by omega⟩
    · rw [if_neg h1] at h; cases h
theorem atI_get {α : Type} {xs : List α} {i : Int} {v : α} (h : atI xs i = some v) : ∃ j, seqIndex? i xs.length = some j ∧ xs[j]? = some v ∧ j < xs.length ∧ -(xs.length : Int) ≤ i ∧ i < xs.length := by
  unfold atI at h
  cases e : ixN xs.length i with
  | none => rw [e] at h; cases h
  | some j =>
    rw [e] at h
    obtain ⟨h1, h2, h3, h4⟩ := ixN_seq e
    exact ⟨j, h1, h, h2, h3, h4⟩
theorem atI_nat {α : Type} {xs : List α} {j : Nat} {v : α} (h : xs[j]? = some v) : atI xs (j : Int) = some v := by
  have hj : j < xs.length := (List.getElem?_eq_some_iff.mp h).1
  have e : ixN xs.length (j : Int) = some j := by
    unfold ixN
    rw [if_pos (by omega), if_pos (by omega)]; simp
  unfold atI; rw [e]; exact h
def PlainIx (b : Expr) : Prop := ∀ o i, subscripted b false o i = operate [o, i] (getItem o i)
def IxR (X : Cx) (r : R2) : Prop :=
  ∀ (value slice : Expr) (pins : List (Addr × Obj)) (s : Shared) (σ : St) (H : Hp) (x y : V) (v u : Value) (Q : VK), Inv X pins σ H s → RelV x v → RelV y u → r x y H Q →
    subscripted slice false v u = operate [v, u] (getItem v u) → wpAny (model X.prog X.w) X.A (subscriptTail value slice v u) (EP X pins σ Q) X.xe s
def MtR (X : Cx) (id : String) (r : V → List V → Hp → VK → Prop) : Prop :=
  ∀ (pins : List (Addr × Obj)) (s : Shared) (σ : St) (H : Hp) (x : V) (xs : List V) (v : Value) (us : List Value) (Q : VK), Inv X pins σ H s → RelV x v → Vals xs us → r x xs H Q →
    wpAny (model X.prog X.w) X.A (call (.builtin id) (v :: us)) (EP X pins σ Q) X.xe s
section
variable {X : Cx} {a b : Expr} {ta tb : TE} {pos : Pos}
theorem pe_ix {r : R2} (hr : IxR X r) (ha : PE X a ta) (hb : PE X b tb) (hs : PlainIx b) : PE X (.Subscript a b pos) (tOp r ta tb) := by
  intro pins s σ H Q I h
  exact Subscript_ (binT ha hb I h fun v u s2 x y H2 I2 rx ry q => hr a b pins s2 σ H2 x y v u Q I2 rx ry q (hs _ _))
def rIxL (K : PySem.W.Frag) : R2 := fun x y H Q => ∃ p xs i v, x = .ref p ∧ y = .int i ∧ SqL K H p xs ∧ atI xs i = some v ∧ Q v H
def rIxT (K : PySem.W.Frag) : R2 := fun x y H Q => ∃ p xs i v, x = .ref p ∧ y = .int i ∧ SqT K H p xs ∧ atI xs i = some v ∧ Q v H
def rIxS : R2 := fun x y H Q => ∃ z i c, x = .str z ∧ y = .int i ∧ z.length ≤ sizeLine ∧ atI z.cps.toList i = some c ∧ Q (.str ⟨#[c]⟩) H
theorem ix_list : IxR X (rIxL X.K) := by
  intro value slice pins s σ H x y v u Q I rx ry h hs
  obtain ⟨p, xs, i, z, rfl, rfl, hq, he, q⟩ := h
  cases rx
  obtain ⟨t, rfl⟩ := ry
  obtain ⟨its, r, pl, hz⟩ := I.list hq
  obtain ⟨j, h1, h2, h3, h4, h5⟩ := atI_get he
  obtain ⟨w, ew, rw'⟩ := r.get h2
  have hl := r.length
  have hn := line63
  have fin : EP X pins σ Q w s := ⟨z, H, I, rw', q⟩
  by_cases h0 : 0 ≤ i
  · have hj : i.toNat = j := by
      rw [seqIndex_of h0 h5] at h1
      exact Option.some.inj h1
    exact item_listR pl.isList h0 (by omega) (by rw [hj]; simpa using ew) fin hs
  · have hj : (i + (its.toArray.size : Int)).toNat = j := by
      rw [seqIndex_neg (by omega) h4] at h1
      rw [List.size_toArray, ← hl]
      exact Option.some.inj h1
    exact subscriptTail_builtinR (x := w) pl.isList.typeIs slot_list_getitem.lookup
      (wpAny_getItem_list_neg (Q := fun r s' => r = w ∧ EP X pins σ Q r s') pl.isList (by omega) (by rw [List.size_toArray] <;> omega) (by omega) (by rw [hj]; simpa using ew) ⟨rfl, fin⟩) hs
theorem ix_tup : IxR X (rIxT X.K) := by
  intro value slice pins s σ H x y v u Q I rx ry h hs
  obtain ⟨p, xs, i, z, rfl, rfl, hq, he, q⟩ := h
  cases rx
  obtain ⟨t, rfl⟩ := ry
  obtain ⟨its, r, pl, hz⟩ := I.tuple hq
  obtain ⟨j, h1, h2, h3, h4, h5⟩ := atI_get he
  obtain ⟨w, ew, rw'⟩ := r.get h2
  have hl := r.length
  have hn := line63
  have fin : EP X pins σ Q w s := ⟨z, H, I, rw', q⟩
  exact subscriptTail_builtinR (x := w) pl.typeIs slot_tuple_getitem.lookup
    (getItem_tuple (j := j) (Q := fun r s' => r = w ∧ EP X pins σ Q r s') pl (by omega) (by omega) (by rw [List.size_toArray, ← hl]; exact h1) (by simpa using ew) ⟨rfl, fin⟩) hs
theorem ix_str : IxR X rIxS := by
  intro value slice pins s σ H x y v u Q I rx ry h hs
  obtain ⟨z, i, c, rfl, rfl, hz, he, q⟩ := h
  obtain ⟨t, rfl⟩ := rx
  obtain ⟨t', rfl⟩ := ry
  obtain ⟨j, h1, h2, h3, h4, h5⟩ := atI_get he
  have hl : z.cps.toList.length = z.length := by simp [Str.length]
  rw [hl] at h1 h4 h5
  have hn := line63
  exact tail_any (typeIs_str s z t) slot_str_getitem.lookup (getItem_str (c := c) (by
    have e1 : decide (i < -(2 ^ 63 : Int)) = false := decide_eq_false (by omega)
    have e2 : decide (i ≥ 2 ^ 63) = false := decide_eq_false (by omega)
    rw [e1, e2, Bool.or_false]) (by rw [h1]; simpa using h2) ⟨.str ⟨#[c]⟩, H, I.tok _, ⟨_, rfl⟩, q⟩) hs
theorem mapSeq_set (its : List Value) (n j : Nat) (u : Value) : Obj.mapSeq (·.setIfInBounds j u) { cls := .type "list", data := .seq its.toArray n } = { cls := .type "list", data := .seq (its.set j u).toArray n } := by
  simp [Obj.mapSeq]
theorem Inv.lst {pins : List (Addr × Obj)} {σ : St} {H : Hp} {s : Shared} {p : Addr} {xs : List V} (I : Inv X pins σ H s) (h : H p = some (.lst xs)) :
    ∃ (its : List Value) (n : Nat), Vals xs its ∧ s.heap.get? p = some { cls := .type "list", data := .seq its.toArray n } ∧ xs.length ≤ sizeLine := by
  obtain ⟨z, its, n, r, e⟩ := I.hok p _ h
  exact ⟨its, n, r, e, z⟩
theorem Inv.lstUpd {pins : List (Addr × Obj)} {σ : St} {H : Hp} {s : Shared} {p : Addr} {xs ys : List V} {its its' : List Value} {n n' : Nat} {f : Obj → Obj} (I : Inv X pins σ H s) (h : H p = some (.lst xs))
    (ho : s.heap.get? p = some { cls := .type "list", data := .seq its.toArray n }) (hf : f { cls := .type "list", data := .seq its.toArray n } = { cls := .type "list", data := .seq its'.toArray n' }) (r : Vals ys its') (hz : ys.length ≤ sizeLine) (t : Nat) :
    Inv X pins σ (upd H p (.lst ys)) { s with heap := s.heap.update p f, toks := t } := by
  have e : (s.heap.update p f).get? p = some { cls := .type "list", data := .seq its'.toArray n' } := by
    rw [Heap.get?_update_self f ho (by rw [hf] <;> rfl), hf]
  refine I.write (x := p) (e := p) (by rw [h]; trivial) (.inl rfl) (fun b u hb q => (Heap.get?_update_other _ _ (Ne.symm hb)).trans q) ⟨_, e⟩ ?_
  exact ⟨hz, its', n', r, e⟩
def rSetL : V → V → V → Hp → (Hp → Prop) → Prop := fun o i v H Q => ∃ p xs k j, o = .ref p ∧ i = .int k ∧ H p = some (.lst xs) ∧ ixN xs.length k = some j ∧ Q (upd H p (.lst (xs.set j v)))
theorem set_list : PSet X rSetL := by
  intro pins s σ H o i v ov iv u Q I ro ri rv h
  obtain ⟨p, xs, k, j, rfl, rfl, hp, hj, q⟩ := h
  cases ro
  obtain ⟨t, rfl⟩ := ri
  obtain ⟨its, n, r, ho, hz⟩ := I.lst hp
  obtain ⟨h1, h2, h3, h4⟩ := ixN_seq hj
  have hl := r.length
  have hn := line63
  have I' : Inv X pins σ (upd H p (.lst (xs.set j v))) { s with heap := s.heap.update p (Obj.mapSeq (·.setIfInBounds j u)) } :=
    I.lstUpd hp ho (mapSeq_set its n j u) (r.set rv j) (by rw [List.length_set]; exact hz) s.toks
  by_cases h0 : 0 ≤ k
  · have hk : k.toNat = j := by
      rw [seqIndex_of h0 h4] at h1
      exact Option.some.inj h1
    exact PySem.W.ki_setAt ho h0 (by omega) (by rw [List.size_toArray, ← hl]; exact h4) (by rw [hk]; exact ⟨_, I', q⟩)
  · have hk : (k + (its.toArray.size : Int)).toNat = j := by
      rw [seqIndex_neg (by omega) h3] at h1
      rw [List.size_toArray, ← hl]
      exact Option.some.inj h1
    exact PySem.W.ki_setBack ho (by omega) (by rw [List.size_toArray, ← hl]; exact h3) (by omega) (by rw [hk]; exact ⟨_, I', q⟩)
theorem slice_bounds (lo hi : Option Int) (n : Nat) : (sliceBounds lo hi none n).1 = ((HT.sIx n 0 lo : Nat) : Int) ∧ (sliceBounds lo hi none n).2.1 = ((HT.sIx n n hi : Nat) : Int) ∧ (sliceBounds lo hi none n).2.2 = 1 := by
  refine ⟨?_, ?_, rfl⟩
  · cases lo with
    | none => simp [sliceBounds, HT.sIx]
    | some i =>
      simp only [sliceBounds, HT.sIx, Option.getD_none, show (1 : Int) > 0 by decide, if_true]
      by_cases h : i < 0
      · simp only [h, if_true] <;> omega
      · simp only [h, if_false] <;> omega
  · cases hi with
    | none => simp [sliceBounds, HT.sIx]
    | some i =>
      simp only [sliceBounds, HT.sIx, Option.getD_none, show (1 : Int) > 0 by decide, if_true]
      by_cases h : i < 0
      · simp only [h, if_true] <;> omega
      · simp only [h, if_false] <;> omega
theorem slicePick_cut (its : List Value) (lo hi : Option Int) : slicePick its.toArray lo hi none = ((its.drop (HT.sIx its.length 0 lo)).take (HT.sIx its.length its.length hi - HT.sIx its.length 0 lo)).toArray := by
  obtain ⟨h1, h2, h3⟩ := slice_bounds lo hi its.toArray.size
  unfold slicePick
  rw [h1, h2, h3]
  simp only [sliceRange_one, pick_run, List.size_toArray] <;> rfl
def rSlL (K : PySem.W.Frag) : V → Option Int → Option Int → Hp → VK → Prop := fun x lo hi H Q => ∃ a xs, x = .ref a ∧ SqL K H a xs ∧ ∀ p, H p = none → Q (.ref p) (upd H p (.lst (cutV xs lo hi)))
theorem sl_list : SlR X (rSlL X.K) := by
  intro pins s σ H x v vl vu lo hi sl Q I rx hs pl pu h
  obtain ⟨a, xs, rfl, hx, q⟩ := h
  cases rx
  obtain ⟨its, r, ht, hz⟩ := I.list hx
  have hlen := r.length
  refine ⟨"list", _, slot_list_getitem.lookup, ht.isList.typeIs, ?_⟩
  refine wpAny_getItem_list_slice ht.isList hs pl pu .none (by simp) ?_ (by rw [List.size_toArray] <;> omega)
  rw [slicePick_cut, ← hlen]
  refine ⟨.ref s.heap.objs.size, _, I.laid (t' := s.toks) (o := .lst (cutV xs lo hi)) (fun b ob q => Heap.get?_push_of_some _ q) (Nat.le_refl _) ?_, rfl, q _ (I.hok.fresh (Nat.le_refl _))⟩
  exact ⟨Nat.le_trans (cutV_length xs lo hi) hz, _, 0, (r.drop (HT.sIx xs.length 0 lo)).take (HT.sIx xs.length xs.length hi - HT.sIx xs.length 0 lo), Heap.get?_push_size _ rfl⟩
def flatV : V → Bool
  | .non => true
  | .bl _ => true
  | .int _ => true
  | .str _ => true
  | _ => false
def eqV : V → V → Bool
  | .non, .non => true
  | .bl a, .bl b => a == b
  | .bl a, .int b => (if a then 1 else 0) == b
  | .int a, .bl b => a == (if b then 1 else 0)
  | .int a, .int b => a == b
  | .str a, .str b => a == b
  | _, _ => false
theorem eqAt_V {A : Around} {s : Shared} {y x : V} {u v : Value} (ry : RelV y u) (rx : RelV x v) (fy : flatV y = true) (fx : flatV x = true) : SeqAt.EqAt A s u v (eqV y x) := by
  cases y with
  | non =>
    cases ry
    cases x with
    | non => cases rx; exact SeqAt.EqAt.same _
    | bl b => cases rx; exact SeqAt.EqAt.none_bool b
    | int b => obtain ⟨t, rfl⟩ := rx; exact SeqAt.EqAt.none_int b t
    | str b => obtain ⟨t, rfl⟩ := rx; exact SeqAt.EqAt.none_str b t
    | _ => exact absurd (show false = true from fx) Bool.false_ne_true
  | bl a =>
    cases ry
    cases x with
    | non => cases rx; exact SeqAt.EqAt.bool_none a
    | bl b => cases rx; exact SeqAt.EqAt.bool_bool a b
    | int b => obtain ⟨t, rfl⟩ := rx; exact SeqAt.EqAt.bool_int a b t
    | str b => obtain ⟨t, rfl⟩ := rx; exact SeqAt.EqAt.bool_str a b t
    | _ => exact absurd (show false = true from fx) Bool.false_ne_true
  | int a =>
    obtain ⟨t', rfl⟩ := ry
    cases x with
    | non => cases rx; exact SeqAt.EqAt.int_none a t'
    | bl b => cases rx; exact SeqAt.EqAt.int_bool a t' b
    | int b => obtain ⟨t, rfl⟩ := rx; exact SeqAt.EqAt.int_int a t' b t
    | str b => obtain ⟨t, rfl⟩ := rx; exact SeqAt.EqAt.int_str a t' b t
    | _ => exact absurd (show false = true from fx) Bool.false_ne_true
  | str a =>
    obtain ⟨t', rfl⟩ := ry
    cases x with
    | non => cases rx; exact SeqAt.EqAt.str_none a t'
    | bl b => cases rx; exact SeqAt.EqAt.str_bool a t' b
    | int b => obtain ⟨t, rfl⟩ := rx; exact SeqAt.EqAt.str_int a t' b t
    | str b => obtain ⟨t, rfl⟩ := rx; exact SeqAt.EqAt.str_str a t' b t
    | _ => exact absurd (show false = true from fx) Bool.false_ne_true
  | _ => exact absurd (show false = true from fy) Bool.false_ne_true
def eqU (x : V) (u : Value) : Bool := match u with
  | .none => eqV .non x
  | .bool b => eqV (.bl b) x
  | .int i _ => eqV (.int i) x
  | .str z _ => eqV (.str z) x
  | _ => false
theorem eqU_of {x y : V} {u : Value} (r : RelV y u) (f : flatV y = true) : eqU x u = eqV y x := by
  cases y with
  | non => cases r; rfl
  | bl b => cases r; rfl
  | int i => obtain ⟨t, rfl⟩ := r; rfl
  | str z => obtain ⟨t, rfl⟩ := r; rfl
  | _ => exact absurd (show false = true from f) Bool.false_ne_true
theorem any_eqU {x : V} : ∀ {xs : List V} {us : List Value}, Vals xs us → xs.all flatV = true → us.any (eqU x) = xs.any fun y => eqV y x
  | _, _, .nil, _ => rfl
  | y :: xs, u :: us, .cons r t, f => by
    rw [List.all_cons, Bool.and_eq_true] at f
    rw [List.any_cons, List.any_cons, eqU_of r f.1, any_eqU t f.2]
theorem mem_eqAt {A : Around} {s : Shared} {x : V} {v : Value} (rx : RelV x v) (fx : flatV x = true) : ∀ {xs : List V} {us : List Value}, Vals xs us → xs.all flatV = true → ∀ u ∈ us, SeqAt.EqAt A s u v (eqU x u)
  | _, _, .nil, _ => fun u hu => by cases hu
  | y :: xs, u :: us, .cons r t, f => fun u' hu => by
    rw [List.all_cons, Bool.and_eq_true] at f
    rcases List.mem_cons.mp hu with rfl | hu
    · rw [eqU_of r f.1]; exact eqAt_V r rx f.1 fx
    · exact mem_eqAt rx fx t f.2 u' hu
def inV (x : V) (xs : List V) : Bool := xs.any fun y => eqV y x
def rIn (K : PySem.W.Frag) (neg : Bool) : R2 := fun x y H Q => ∃ p xs, y = .ref p ∧ (SqL K H p xs ∨ SqT K H p xs) ∧ flatV x = true ∧ xs.all flatV = true ∧ Q (.bl (if neg then !inV x xs else inV x xs)) H
theorem op_in_seq : OpR X (compareOp .In) (rIn X.K false) := by
  intro pins s σ H x y v u Q I rx ry h
  obtain ⟨p, xs, rfl, hq, fx, fs, q⟩ := h
  cases ry
  rcases hq with hq | hq
  · obtain ⟨its, r, pl, hz⟩ := I.list hq
    refine SeqAt.in_listAt (eqU x) pl.isList (fun w hw => mem_eqAt rx fx r fs w (by simpa using hw)) ⟨.bl _, H, I, rfl, ?_⟩
    rw [show its.toArray.any (eqU x) = its.any (eqU x) by simp, any_eqU r fs]
    exact q
  · obtain ⟨its, r, pl, hz⟩ := I.tuple hq
    refine SeqAt.in_tupleAt (eqU x) pl (fun w hw => mem_eqAt rx fx r fs w (by simpa using hw)) ⟨.bl _, H, I, rfl, ?_⟩
    rw [show its.toArray.any (eqU x) = its.any (eqU x) by simp, any_eqU r fs]
    exact q
theorem call_len_seq : CallR X (.builtin "len") (fun xs H Q => ∃ p ys, xs = [.ref p] ∧ (SqL X.K H p ys ∨ SqT X.K H p ys) ∧ Q (.int ys.length) H) := by
  intro pins s σ H xs us Q I r h
  obtain ⟨p, ys, rfl, hq, q⟩ := h
  obtain ⟨u, rfl, rx⟩ := vals1 r
  cases rx
  have hn := line63
  rcases hq with hq | hq
  · obtain ⟨its, r', pl, hz⟩ := I.list hq
    have hlen := r'.length
    exact Calls.call_len_list pl.isList (by simp only [List.size_toArray] <;> omega) ⟨.int ys.length, H, I.tok _, ⟨s.toks + 1, by rw [List.size_toArray, hlen]⟩, q⟩
  · obtain ⟨its, r', pl, hz⟩ := I.tuple hq
    have hlen := r'.length
    exact len_tuple pl (by simp only [List.size_toArray] <;> omega) ⟨.int ys.length, H, I.tok _, ⟨s.toks + 1, by rw [List.size_toArray, hlen]⟩, q⟩
theorem call_len_str : CallR X (.builtin "len") (fun xs H Q => ∃ z, xs = [.str z] ∧ z.length ≤ sizeLine ∧ Q (.int z.length) H) := by
  intro pins s σ H xs us Q I r h
  obtain ⟨z, rfl, hz, q⟩ := h
  obtain ⟨u, rfl, t, rfl⟩ := vals1 r
  have hn := line63
  exact len_str (by omega) ⟨.int z.length, H, I.tok _, ⟨_, rfl⟩, q⟩
theorem call_tuple_of : CallR X (.type "tuple") (fun xs H Q => ∃ p ys, xs = [.ref p] ∧ ((SqL X.K H p ys ∧ ∀ l, H l = none → Q (.ref l) (upd H l (.tup ys))) ∨ (SqT X.K H p ys ∧ Q (.ref p) H))) := by
  intro pins s σ H xs us Q I r h
  obtain ⟨p, ys, rfl, h⟩ := h
  obtain ⟨u, rfl, rx⟩ := vals1 r
  cases rx
  rcases h with ⟨hq, q⟩ | ⟨hq, q⟩
  · obtain ⟨its, r', pl, hz⟩ := I.list hq
    have hlen := r'.length
    refine call_tuple_list pl.isList (fun h' kp => ?_) (by simp only [List.size_toArray] <;> omega)
    have I1 : Inv X pins σ H { s with heap := h' } := I.kept (t' := s.toks) kp
    have I2 : Inv X pins σ (upd H h'.objs.size (.tup ys)) { s with heap := h'.push { cls := .type "tuple", data := .seq its.toArray } } :=
      I1.laid (t' := s.toks) (fun b o e => Heap.get?_push_of_some _ e) (Nat.le_refl _) (show ObjOk X.prog X.w _ _ _ (.tup ys) from ⟨hz, its, r', IsTup.new _ _⟩)
    exact ⟨.ref h'.objs.size, _, I2, rfl, q _ (I1.hok.fresh (Nat.le_refl _))⟩
  · obtain ⟨its, r', pl, hz⟩ := I.tuple hq
    exact call_tuple_same pl ⟨.ref p, H, I, rfl, q⟩
def tyV (K : PySem.W.Frag) (T : String) (x : V) (H : Hp) : Prop := match x with
  | .str _ => T = "str"
  | .int _ => T = "int"
  | .ref p => (T = "list" ∧ ∃ xs, SqL K H p xs) ∨ (T = "tuple" ∧ ∃ o, K.lookup p = some o ∧ o.cls = .type "tuple" ∧ o.dict = none) ∨
      (T = "dict" ∧ ((∃ kvs, H p = some (.dK kvs)) ∨ ∃ kvs, H p = some (.dT kvs))) ∨ (T = "set" ∧ ∃ S n, H p = some (.set S n))
  | _ => False
theorem tyV_is {pins : List (Addr × Obj)} {σ : St} {H : Hp} {s : Shared} {T : String} {x : V} {v : Value} (I : Inv X pins σ H s) (r : RelV x v) (ty : tyV X.K T x H) :
    s.TypeIs v T ∧ ∀ a, v = .ref a → ∃ ob, s.heap.get? a = some ob ∧ ob.dict = none := by
  cases x with
  | str z =>
    obtain ⟨t, rfl⟩ := r
    cases (show T = "str" from ty)
    exact ⟨typeIs_str s z t, fun _ e => nomatch e⟩
  | int i =>
    obtain ⟨t, rfl⟩ := r
    cases (show T = "int" from ty)
    exact ⟨typeIs_int s i t, fun _ e => nomatch e⟩
  | ref p =>
    cases r
    rcases ty with ⟨rfl, xs, hq⟩ | ⟨rfl, o, hk, hc, hd⟩ | ⟨rfl, hk⟩ | ⟨rfl, S, n, hk⟩
    · obtain ⟨its, _, pl, _⟩ := I.list hq
      refine ⟨pl.isList.typeIs, fun a e => ?_⟩
      cases e
      obtain ⟨o, n, e, c, hd, _⟩ := pl
      exact ⟨o, e, hd⟩
    · refine ⟨⟨o, I.kIn p o hk, hc⟩, fun a e => ?_⟩
      cases e
      exact ⟨o, I.kIn _ o hk, hd⟩
    · have z : ∃ o, s.heap.get? p = some o ∧ o.ExactDict := by
        rcases hk with ⟨kvs, hk⟩ | ⟨kvs, hk⟩
        · obtain ⟨_, _, _, _, o, _, _, e, ex, _⟩ := I.hok p _ hk
          exact ⟨o, e, ex⟩
        · obtain ⟨_, _, _, _, o, _, _, e, ex, _⟩ := I.hok p _ hk
          exact ⟨o, e, ex⟩
      obtain ⟨o, e, ex⟩ := z
      refine ⟨⟨o, e, ex.1⟩, fun a e2 => ?_⟩
      cases e2
      exact ⟨o, e, ex.2.1⟩
    · obtain ⟨o, _, _, _, e, ex, _⟩ := I.hok p _ hk
      refine ⟨⟨o, e, ex.1⟩, fun a e2 => ?_⟩
      cases e2
      exact ⟨o, e, ex.2.1⟩
  | _ => exact False.elim ty
def tBM0 (K : PySem.W.Frag) (T : String) (r : V → List V → Hp → VK → Prop) (to : TE) : TE := fun σ H Q => to σ H fun x H1 => tyV K T x H1 ∧ r x [] H1 Q
def tBM (K : PySem.W.Frag) (T : String) (r : V → List V → Hp → VK → Prop) (to : TE) (t : TA) : TE := fun σ H Q => to σ H fun x H1 => tyV K T x H1 ∧ t σ H1 fun xs H2 => r x xs H2 Q
variable {o e : Expr} {es : List Expr} {to : TE} {t : TA} {name : Str} {apos cpos : Pos} {T id : String} {r : V → List V → Hp → VK → Prop}
theorem pe_bm0 (pa : PlainAttrs T) (slot : Slot T name id) (hty : typeOf (.builtin id) = pure (.type "method_descriptor")) (hm : MtR X id r) (ho : PE X o to)
    (hbase : attributeBase o name X.env (eval o X.env) = eval o X.env := by rfl) (hline : (apos.endLine == cpos.line) = true := by rfl) : PE X (.Call (.Attribute o name apos) [] [] cpos) (tBM0 X.K T r to) := by
  intro pins s σ H Q I h
  refine wpAny_Call_method0_late hbase hline (thn (ho pins s σ H _ I h) fun v s1 hm0 => ?_)
  obtain ⟨x, H1, I1, r1, ty, q1⟩ := hm0
  obtain ⟨h1, h2⟩ := tyV_is I1 r1 ty
  exact ⟨T, id, pa, slot, hty, h1, h2, Calls.callWith_builtin rfl (PySem.evalArgs_none (hm pins s1 σ H1 x [] v [] Q I1 r1 .nil q1))⟩
theorem pe_bm (pa : PlainAttrs T) (slot : Slot T name id) (hty : typeOf (.builtin id) = pure (.type "method_descriptor")) (hm : MtR X id r) (ho : PE X o to) (ha : PA X (e :: es) t)
    (hbase : attributeBase o name X.env (eval o X.env) = eval o X.env := by rfl)
    (hfew : ((backTo cpos (starEach (e :: es) X.env)).all (fun x => !x.1) && (backToKw cpos (keywordEach [] X.env)).all (fun x => x.1.isSome)
      && decide ((e :: es).length + ([] : List Keyword).length + (if ([] : List Keyword).isEmpty then 0 else 1) < 30)) = true := by rfl)
    (hline : (apos.endLine == cpos.line) = true := by rfl) (hs : starEach (e :: es) X.env = (false, eval e X.env) :: starEach es X.env := by rfl) (hplain : (backTo cpos (starEach es X.env)).any (·.1) = false := by rfl) :
    PE X (.Call (.Attribute o name apos) (e :: es) [] cpos) (tBM X.K T r to t) := by
  intro pins s σ H Q I h
  refine wpAny_Call_method_late hbase hfew hline rfl (thn (ho pins s σ H _ I h) fun v s1 hm0 => ?_)
  obtain ⟨x, H1, I1, r1, ty, q1⟩ := hm0
  obtain ⟨h1, h2⟩ := tyV_is I1 r1 ty
  refine ⟨T, id, pa, slot, hty, h1, h2, ?_⟩
  have hA := ha cpos pins s1 σ H1 _ I1 q1
  rw [hs] at hA ⊢
  refine Calls.callWith_builtin (by show (false || (backTo cpos (starEach es X.env)).any (·.1)) = false; rw [hplain] <;> rfl) (Calls.evalArgs_plain ?_)
  refine thn hA fun us s2 hm0 => ?_
  obtain ⟨vs, H2, I2, r2, q2⟩ := hm0
  exact hm pins s2 σ H2 x vs v us Q I2 r1 r2 q2
/- xs.append(e), list.index on a module's tuple .. are MtR facts of 06m -/
end
end L2
namespace L2
open PySem PySem.Spec PyProof.Rows
def MtM (X : Cx) (id : String) (r : V → List V → Hp → VK → Prop) : Prop :=
  ∀ (pins : List (Addr × Obj)) (s : Shared) (σ : St) (H : Hp) (x : V) (xs : List V) (v : Value) (us : List Value) (Q : VK), Inv X pins σ H s → RelV x v → Vals xs us → r x xs H Q →
    wpAny (model X.prog X.w) X.A (call (.builtin id) (v :: us)) (EP X pins σ Q) X.xe s
theorem Vals.one {x : V} {us : List Value} (h : Vals [x] us) : ∃ u, us = [u] ∧ RelV x u := by
  cases h with
  | cons r e => cases e; exact ⟨_, rfl, r⟩
theorem Vals.two {x y : V} {us : List Value} (h : Vals [x, y] us) : ∃ u v, us = [u, v] ∧ RelV x u ∧ RelV y v := by
  cases h with
  | cons r e =>
    obtain ⟨v, e1, q⟩ := Vals.one e
    subst e1
    exact ⟨_, _, rfl, r, q⟩
theorem Vals.zero : ∀ {us : List Value}, Vals [] us → us = []
  | _, .nil => rfl
theorem Vals.dropLast {xs : List V} {us : List Value} (h : Vals xs us) : Vals xs.dropLast us.dropLast := by
  induction h with
  | nil => exact .nil
  | cons r t ih =>
    cases t with
    | nil => exact .nil
    | cons q t' => exact .cons r ih
theorem erase_last {α : Type} (l : List α) : l.eraseIdx (l.length - 1) = l.dropLast := by
  induction l with
  | nil => rfl
  | cons a r ih =>
    cases r with
    | nil => rfl
    | cons b r =>
      have e : (a :: b :: r).length - 1 = ((b :: r).length - 1) + 1 := by
        have h1 : (a :: b :: r).length = r.length + 2 := rfl
        have h2 : (b :: r).length = r.length + 1 := rfl
        omega
      rw [e, List.eraseIdx_cons_succ, ih]
      all_goals rfl
section
variable {X : Cx} {pins : List (Addr × Obj)} {σ : St} {H : Hp} {s : Shared} {l b : Addr} {xs ys zs : List V}
theorem Inv.lset {its its' : List Value} {n : Nat} {f : Array Value → Array Value} {t' : Nat} (I : Inv X pins σ H s) (hH : H l = some (.lst xs))
    (e : s.heap.get? l = some { cls := .type "list", data := .seq its.toArray n }) (hf : f its.toArray = its'.toArray) (hv : Vals ys its') (hz : ys.length ≤ sizeLine) :
    Inv X pins σ (upd H l (.lst ys)) { s with heap := s.heap.update l (Obj.mapSeq f), toks := t' } := by
  have q := PySem.IsL.update e f
  rw [hf] at q
  refine I.write (x := l) (e := l) (by rw [hH]; exact trivial) (.inl rfl) (fun b' u hb hu => (Heap.get?_update_other s.heap (Obj.mapSeq f) (Ne.symm hb)).trans hu) ⟨_, q⟩ ?_
  exact ⟨hz, its', _, hv, q⟩
theorem Inv.lnew {its : List Value} {t' : Nat} (I : Inv X pins σ H s) (hv : Vals ys its) (hz : ys.length ≤ sizeLine) :
    Inv X pins σ (upd H s.heap.objs.size (.lst ys)) { s with heap := s.heap.push { cls := .type "list", data := .seq its.toArray }, toks := t' } :=
  I.laid (fun _ _ q => Heap.get?_push_of_some _ q) (Nat.le_refl _) ⟨hz, its, 0, hv, Heap.get?_push_size _ rfl⟩
theorem Inv.fresh (I : Inv X pins σ H s) : H s.heap.objs.size = none := I.hok.fresh (Nat.le_refl _)
theorem Inv.lstM (I : Inv X pins σ H s) (hH : H l = some (.lst xs)) : xs.length ≤ sizeLine ∧ ∃ (its : List Value) (n : Nat), Vals xs its ∧ xs.length = its.length ∧ s.heap.get? l = some { cls := .type "list", data := .seq its.toArray n } := by
  obtain ⟨z, its, n, r, e⟩ := I.hok l _ hH
  exact ⟨z, its, n, r, r.length, e⟩
end
section
variable {X : Cx}
def rAppend : V → List V → Hp → VK → Prop := fun x vs H Q => ∃ l xs y, x = .ref l ∧ vs = [y] ∧ H l = some (.lst xs) ∧ xs.length < sizeLine ∧ Q .non (upd H l (.lst (xs ++ [y])))
theorem mt_append : MtM X "list.append" rAppend := by
  intro pins s σ H x vs v us Q I rx rv h
  obtain ⟨l, xs, y, rfl, rfl, hH, hz, q⟩ := h
  cases rx
  obtain ⟨u, rfl, ru⟩ := rv.one
  obtain ⟨z, its, n, r, hl, e⟩ := I.lstM hH
  refine call_meets F.slot_list_append ⟨_, e, rfl⟩ F.entry_list_append (F.args_list_append_2 _ _) (PySem.list_append l its.toArray n u (by rw [List.size_toArray]; omega)) ⟨e, ?_⟩
  refine ⟨.non, _, I.lset (its' := its ++ [u]) hH e (by simp) (r.append (.cons ru .nil)) ?_, rfl, q⟩
  rw [List.length_append, List.length_singleton]
  omega
def rPop : V → List V → Hp → VK → Prop := fun x vs H Q => ∃ l xs y, x = .ref l ∧ vs = [] ∧ H l = some (.lst xs) ∧ xs[xs.length - 1]? = some y ∧ Q y (upd H l (.lst xs.dropLast))
theorem mt_pop : MtM X "list.pop" rPop := by
  intro pins s σ H x vs v us Q I rx rv h
  obtain ⟨l, xs, y, rfl, rfl, hH, hy, q⟩ := h
  cases rx
  have hus := rv.zero
  subst hus
  obtain ⟨z, its, n, r, hl, e⟩ := I.lstM hH
  obtain ⟨u, hu, ru⟩ := r.get hy
  have hy' : its.toArray[its.toArray.size - 1]? = some u := by
    show its.toArray[its.length - 1]? = some u
    rw [← Array.getElem?_toList, ← hl]
    exact hu
  refine call_meets F.slot_list_pop ⟨_, e, rfl⟩ F.entry_list_pop (F.args_list_pop_1 _) (MeetsSeq.list_pop_last l its.toArray n u hy' (by rw [List.size_toArray]; omega)) ⟨e, ?_⟩
  refine ⟨y, _, I.lset (its' := its.dropLast) hH e ?_ r.dropLast ?_, ru, q⟩
  · show its.toArray.eraseIdxIfInBounds (its.toArray.size - 1) = its.dropLast.toArray
    rw [List.size_toArray, List.eraseIdxIfInBounds_toArray, erase_last]
  · rw [List.length_dropLast]
    omega
def rCat : R2 := fun x y H Q => ∃ l b xs zs, x = .ref l ∧ y = .ref b ∧ H l = some (.lst xs) ∧ H b = some (.lst zs) ∧ xs.length + zs.length ≤ sizeLine ∧ ∀ p, H p = none → Q (.ref p) (upd H p (.lst (xs ++ zs)))
theorem op_cat : OpR X (binaryOp .Add) rCat := by
  intro pins s σ H x y v u Q I rx ry h
  obtain ⟨l, b, xs, zs, rfl, rfl, hH, hB, hz, q⟩ := h
  cases rx
  cases ry
  obtain ⟨z, its, n, r, hl, e⟩ := I.lstM hH
  obtain ⟨z2, its2, n2, r2, hl2, e2⟩ := I.lstM hB
  refine PySem.P.add_list e e2 ?_ (by rw [List.size_toArray, List.size_toArray]; omega)
  have ea : its.toArray ++ its2.toArray = (its ++ its2).toArray := by simp
  rw [ea]
  exact ⟨.ref _, _, I.lnew (t' := s.toks) (r.append r2) (by rw [List.length_append]; omega), rfl, q _ I.fresh⟩
end
section
variable {prog : Program} {w : World} {A : Around} {E : Value → Shared → Prop} {s : Shared}
set_option maxRecDepth 100000 in
end
section
variable {X : Cx}
end
end L2
namespace L2
open PySem PySem.Spec PyProof.Rows
section
variable {κ : Type} [DecidableEq κ]
def valV (kvs : List (κ × V)) (k : κ) : Option V := (kvs.find? fun kv => decide (kv.1 = k)).map (·.2)
def putK (kvs : List (κ × V)) (k : κ) (v : V) : List (κ × V) :=
  if (kvs.any fun kv => decide (kv.1 = k)) = true then kvs.map (fun kv => if kv.1 = k then (kv.1, v) else kv) else kvs ++ [(k, v)]
theorem valV_pos {p : κ × V} {r : List (κ × V)} {k : κ} (e : p.1 = k) : valV (p :: r) k = some p.2 := by simp [valV, List.find?_cons, e]
theorem valV_neg {p : κ × V} {r : List (κ × V)} {k : κ} (e : ¬ p.1 = k) : valV (p :: r) k = valV r k := by simp [valV, List.find?_cons, e]
theorem length_putK (kvs : List (κ × V)) (k : κ) (v : V) : (putK kvs k v).length ≤ kvs.length + 1 := by
  unfold putK
  split
  · rw [List.length_map]; omega
  · rw [List.length_append, List.length_cons, List.length_nil]; omega
theorem RelO.isSome_eq {o : Option V} {u : Option Value} (r : RelO o u) : o.isSome = u.isSome := by
  cases o with
  | none => cases u with
    | none => rfl
    | some _ => exact (show False from r).elim
  | some _ => cases u with
    | none => exact (show False from r).elim
    | some _ => rfl
theorem RelO.getD {o : Option V} {u : Option Value} {d : V} {d' : Value} (r : RelO o u) (rd : RelV d d') : RelV (o.getD d) (u.getD d') := by
  cases o with
  | none => cases u with
    | none => exact rd
    | some _ => exact (show False from r).elim
  | some _ => cases u with
    | none => exact (show False from r).elim
    | some _ => exact r
theorem KV.val {kvs : List (κ × V)} {vs : List (κ × Value)} (r : KV kvs vs) (k : κ) : RelO (valV kvs k) (valueAt vs k) := by
  unfold KV at r
  induction r with
  | nil => exact True.intro
  | @cons p q ps qs h t ih =>
    obtain ⟨h1, h2⟩ := h
    by_cases e : p.1 = k
    · have e' : q.1 = k := h1.symm.trans e
      have b : valueAt (q :: qs) k = some q.2 := by simp [valueAt, List.find?_cons, e']
      rw [valV_pos e, b]; exact h2
    · have e' : ¬ q.1 = k := fun z => e (h1.trans z)
      have b : valueAt (q :: qs) k = valueAt qs k := by simp [valueAt, List.find?_cons, e']
      rw [valV_neg e, b]; exact ih
theorem KV.any {kvs : List (κ × V)} {vs : List (κ × Value)} (r : KV kvs vs) (k : κ) : (kvs.any fun kv => decide (kv.1 = k)) = vs.any fun kv => decide (kv.1 = k) := by
  unfold KV at r
  induction r with
  | nil => rfl
  | cons h t ih => rw [List.any_cons, List.any_cons, ih, h.1]
theorem KV.repl {kvs : List (κ × V)} {vs : List (κ × Value)} (r : KV kvs vs) (k : κ) {y : V} {u : Value} (ry : RelV y u) :
    KV (kvs.map fun kv => if kv.1 = k then (kv.1, y) else kv) (vs.map fun kv => if kv.1 = k then (kv.1, u) else kv) := by
  unfold KV at r ⊢
  induction r with
  | nil => exact .nil
  | @cons p q ps qs h t ih =>
    rw [List.map_cons, List.map_cons]
    refine .cons ?_ ih
    obtain ⟨h1, h2⟩ := h
    by_cases e : p.1 = k
    · rw [if_pos e, if_pos (h1.symm.trans e)]; exact ⟨h1, ry⟩
    · rw [if_neg e, if_neg (fun z => e (h1.trans z))]; exact ⟨h1, h2⟩
theorem KV.put {kvs : List (κ × V)} {vs : List (κ × Value)} (r : KV kvs vs) (k : κ) {y : V} {u : Value} (ry : RelV y u) : KV (putK kvs k y) (stored vs k u) := by
  unfold putK stored
  rw [r.any k]
  by_cases e : (vs.any fun kv => decide (kv.1 = k)) = true
  · rw [if_pos e, if_pos e]; exact r.repl k ry
  · rw [if_neg e, if_neg e]; exact Paired.snoc r ⟨rfl, ry⟩
end
theorem kV_is {P : Program} {w : World} {k : Key} {u : Value} (r : RelV (kV k) u) : (mixKind P w).is k u = true := by
  cases k with
  | inl i => obtain ⟨t, e⟩ := (show ∃ t, u = Value.int i t from r); subst e; exact mixKind_int P w i t
  | inr x => obtain ⟨t, e⟩ := (show ∃ t, u = Value.str x t from r); subst e; exact mixKind_str P w x t
theorem items_are {P : Program} {w : World} : ∀ {ks : List Key} {us : List Value}, Vals (ks.map kV) us → ItemsAre (mixKind P w) ks us
  | [], _, r => by rw [List.map_nil] at r; cases r; exact .nil
  | k :: ks, _, r => by
    rw [List.map_cons] at r
    cases r with
    | cons h t => exact .cons (kV_is h) (items_are t)
abbrev KT (H : Hp) : List (List Key × V) → List (List Key × Addr × Value) → Prop := Paired fun p q => p.1 = q.1 ∧ H q.2.1 = some (.tup (p.1.map kV)) ∧ RelV p.2 q.2.2
theorem KT.val {H : Hp} {kvs : List (List Key × V)} {xs : List (List Key × Addr × Value)} (r : KT H kvs xs) (k : List Key) : RelO (valV kvs k) ((atKey xs k).map (·.2)) := by
  induction r with
  | nil => exact True.intro
  | @cons p q ps qs h t ih =>
    obtain ⟨h1, _, h2⟩ := h
    by_cases e : p.1 = k
    · have e' : q.1 = k := h1.symm.trans e
      have b : atKey (q :: qs) k = some q.2 := by simp [atKey, List.find?_cons, e']
      rw [valV_pos e, b]; exact h2
    · have e' : ¬ q.1 = k := fun z => e (h1.trans z)
      have b : atKey (q :: qs) k = atKey qs k := by simp [atKey, List.find?_cons, e']
      rw [valV_neg e, b]; exact ih
section
variable {P : Program} {w : World} {H : Hp} {h : Heap} {a : Addr}
theorem rd_of {u : HO} (ok : HOk P w H h) (e : Rd H a u) : ObjOk P w H h a u := e.ok ok
theorem dk_rd {kvs : List (Key × V)} (ok : HOk P w H h) (e : Rd H a (.dK kvs)) : kvs.length ≤ sizeLine ∧ (a == sysModules) = false ∧ ∃ vs, KV kvs vs ∧ h.DictOf (mixKind P w) a vs :=
  show ObjOk P w H h a (.dK kvs) from rd_of ok e
theorem dk_of {kvs : List (Key × V)} (ok : HOk P w H h) (e : H a = some (.dK kvs)) : kvs.length ≤ sizeLine ∧ (a == sysModules) = false ∧ ∃ vs, KV kvs vs ∧ h.DictOf (mixKind P w) a vs := dk_rd ok (.inl e)
theorem key_of {ks : List Key} (ok : HOk P w H h) (e : H a = some (.tup (ks.map kV))) : (tupleKind (mixKind P w)).is h ks a := by
  obtain ⟨_, its, r, o, h1, h2, n, h3⟩ := (show ObjOk P w H h a (.tup (ks.map kV)) from ok a _ e)
  exact ⟨o, its.toArray, n, h1, h2, h3, by simpa using items_are r⟩
theorem dt_rd {kvs : List (List Key × V)} (ok : HOk P w H h) (e : Rd H a (.dT kvs)) : kvs.length ≤ sizeLine ∧ (a == sysModules) = false ∧
    ∃ xs, KT H kvs xs ∧ h.DictOfH (tupleKind (mixKind P w)) a xs := by
  obtain ⟨z, y, xs, r, o, es, ep, h1, h2, h3, h4, h5⟩ := (show ObjOk P w H h a (.dT kvs) from rd_of ok e)
  refine ⟨z, y, xs, r, o, es, ep, h1, h2, h3, h4, fun x hx => ?_, h5⟩
  have all : ∀ {l : List (List Key × V)} {m : List (List Key × Addr × Value)}, KT H l m → ∀ x ∈ m, (tupleKind (mixKind P w)).is h x.1 x.2.1 := by
    intro l m q
    induction q with
    | nil => intro x hx; exact nomatch hx
    | @cons p q ps qs hq t ih =>
      intro x hx
      rcases List.mem_cons.mp hx with e | hx
      · subst e
        exact key_of ok (by rw [← hq.1]; exact hq.2.1)
      · exact ih x hx
  exact all r x hx
end
def DGet (H : Hp) (a : Addr) (y : V) (r : Option V) : Prop :=
  (∃ kvs k, Rd H a (.dK kvs) ∧ y = kV k ∧ r = valV kvs k) ∨ ∃ kvs k b, Rd H a (.dT kvs) ∧ y = .ref b ∧ H b = some (.tup (k.map kV)) ∧ r = valV kvs k
section
variable {X : Cx} {pins : List (Addr × Obj)} {σ : St} {H : Hp} {s : Shared} {a : Addr} {y v : V} {u r : Value} {o : Option V} {A : Around} {E : Value → Shared → Prop}
theorem Inv.big (I : Inv X pins σ H s) : sysModules < s.heap.objs.size := by
  have h : mainGlobals < s.heap.objs.size := (I.mod.glob.keeps I.bk).lt
  exact Nat.lt_trans (by decide) h
theorem d_getItem {Q : Value → Shared → Prop} (hu : A.units + 1 < cLine) (I : Inv X pins σ H s) (g : DGet H a y (some v)) (ry : RelV y u) (h : ∀ w' s', Inv X pins σ H s' → RelV v w' → Q w' s') :
    wpAny (model X.prog X.w) A (getItem (.ref a) u) Q E s := by
  rcases g with ⟨kvs, k, e, ey, l⟩ | ⟨kvs, k, b, e, ey, eb, l⟩
  · subst ey
    obtain ⟨z, hd, vs, rel, dd⟩ := dk_rd I.hok e
    obtain ⟨w', hw, rw'⟩ := RelO.some_of (v := v) (o := valueAt vs k) (by rw [l]; exact rel.val k)
    exact wpAny_getItem_of (kV_is ry) dd.mapOf hw (h w' _ (I.tok _) rw')
  · subst ey
    cases (show u = Value.ref b from ry)
    obtain ⟨z, hd, xs, rel, dd⟩ := dt_rd I.hok e
    obtain ⟨w', hw, rw'⟩ := RelO.some_of (v := v) (o := (atKey xs k).map (·.2)) (by rw [l]; exact rel.val k)
    obtain ⟨p, hp, hp2⟩ := Option.map_eq_some_iff.mp hw
    refine wpAny_getItem_heap (tupleKind_room_in1 hu) (key_of I.hok eb) dd hp ?_
    rw [hp2]
    exact h w' _ (I.tok _) rw'
theorem d_write {h' : Heap} {t' : Nat} {ob : HO} (I : Inv X pins σ H s) (mu : Mut (H a)) (hs : Heap.SameBut a s.heap h') (he : ∃ q, h'.get? a = some q) (new : ObjOk X.prog X.w (upd H a ob) h' a ob) :
    Inv X pins σ (upd H a ob) { s with heap := h', toks := t' } :=
  I.write (x := a) (e := a) mu (.inl rfl) (fun b q hb z => (hs.2 b hb).trans z) he new
theorem dk_new {P : Program} {w : World} {H' : Hp} {h' : Heap} {kvs : List (Key × V)} {vs : List (Key × Value)} (z : kvs.length ≤ sizeLine) (hd : (a == sysModules) = false) (rel : KV kvs vs) (dd : h'.DictOf (mixKind P w) a vs) :
    ObjOk P w H' h' a (.dK kvs) := ⟨z, hd, vs, rel, dd⟩
end
section
variable {X : Cx} {pins : List (Addr × Obj)} {σ : St} {H : Hp} {s : Shared} {a : Addr} {kvs : List (Key × V)} {k : Key} {u : Value} {A : Around} {E : Value → Shared → Prop}
end
def NoSl (i : Expr) : Prop := ∀ ov iv, subscripted i false ov iv = operate [ov, iv] (getItem ov iv)
theorem subD_of {prog : Program} {w : World} {A : Around} {E : Value → Shared → Prop} {s : Shared} {env : Env} {value slice : Expr} {pos : Pos} {T id : String} {Q : Value → Shared → Prop}
    (hl : typeLookup (.type T) "__getitem__" = pure (some (.builtin id))) (hs : NoSl slice)
    (h : wpAny (model prog w) A (eval value env) (fun o s₁ => wpAny (model prog w) A (eval slice env) (fun i s₂ => s₂.TypeIs o T ∧ wpAny (model prog w) A (getItem o i) Q E s₂) E s₁) E s) :
    wpAny (model prog w) A (eval (.Subscript value slice pos) env) Q E s := by
  refine Subscript_ (wpAny_mono h (fun o s₁ h₁ => wpAny_mono h₁ (fun i s₂ h₂ => ?_) fun _ _ x => x) fun _ _ x => x)
  obtain ⟨hT, h₂⟩ := h₂
  unfold subscriptTail
  refine wpAny_bind ?_
  rw [getitemInPython_of_ne hT.not_modules]
  refine wpAny_bind (wpAny_specialOf hT hl ?_)
  have fin : wpAny (model prog w) A (subscripted slice false o i) (fun r s₃ => wpAny (model prog w) A (letTemporaryGo value o r >>= fun _ => pure r) Q E s₃) E s₂ := by
    rw [hs o i]
    exact wpAny_operating (wpAny_mono h₂ (fun r s₃ h₃ => wpAny_bind (wpAny_letTemporaryGo (wpAny_pure h₃))) fun _ _ x => x)
  first
    | exact wpAny_pure (wpAny_bind fin)
    | exact wpAny_bind (wpAny_pure (wpAny_bind fin))
    | exact wpAny_bind fin
theorem dict_typeIs {X : Cx} {pins : List (Addr × Obj)} {σ : St} {H : Hp} {s : Shared} {a : Addr} {y : V} {o : Option V} (I : Inv X pins σ H s) (g : DGet H a y o) : s.TypeIs (.ref a) "dict" := by
  rcases g with ⟨kvs, k, e, _, _⟩ | ⟨kvs, k, b, e, _, _, _⟩
  · obtain ⟨_, _, vs, _, dd⟩ := dk_rd I.hok e
    exact dd.typeIs
  · obtain ⟨_, _, xs, _, dd⟩ := dt_rd I.hok e
    exact dd.typeIs
def tDGet (td ty : TE) : TE := fun σ H Q => td σ H fun x H1 => ty σ H1 fun y H2 => ∃ a v, x = .ref a ∧ DGet H2 a y (some v) ∧ Q v H2
section
variable {X : Cx} {o i e value : Expr} {pos pos' tpos : Pos} {td ty tv : TE}
theorem pe_dget (hu : X.A.units + 1 < cLine) (ho : PE X o td) (hi : PE X i ty) (hs : NoSl i) : PE X (.Subscript o i pos) (tDGet td ty) := by
  intro pins s σ H Q I h
  refine subD_of PySem.F.slot_dict_getitem.lookup hs (thn (ho pins s σ H _ I h) fun u s1 hm0 => ?_)
  obtain ⟨x, H1, I1, rx, q1⟩ := hm0
  refine thn (hi pins s1 σ H1 _ I1 q1) fun iv s2 hm1 => ?_
  obtain ⟨y, H2, I2, ry, a, v, ex, g, q2⟩ := hm1
  subst ex
  obtain rfl : u = Value.ref a := rx
  exact ⟨dict_typeIs I2 g, d_getItem hu I2 g ry fun w' s3 I3 rw' => ⟨v, H2, I3, rw', q2⟩⟩
end
theorem dk_empty {P : Program} {w : World} {H : Hp} (h : Heap) (hb : sysModules < h.objs.size) : ObjOk P w H (h.push { cls := .type "dict", data := .dict #[] }) h.objs.size (.dK []) :=
  ⟨Nat.zero_le _, beq_eq_false_iff_ne.mpr (Ne.symm (Nat.ne_of_lt hb)), [], .nil, Heap.DictOf.new h⟩
section
variable {X : Cx} {pos : Pos}
end
def tPairs : List (TE × TE) → St → Hp → (List (V × V) → Hp → Prop) → Prop
  | [], _, H, Q => Q [] H
  | (tk, tv) :: r, σ, H, Q => tk σ H fun x H1 => tv σ H1 fun y H2 => tPairs r σ H2 fun ps H3 => Q ((x, y) :: ps) H3
abbrev VV : List (V × V) → List (Value × Value) → Prop := Paired fun p q => RelV p.1 q.1 ∧ RelV p.2 q.2
def PPs (X : Cx) (pos : Pos) (keys : List (Option Expr)) (values : List Expr) (trs : List (TE × TE)) : Prop :=
  ∀ (pins : List (Addr × Obj)) (s : Shared) (σ : St) (H : Hp) (Q : List (V × V) → Hp → Prop), Inv X pins σ H s → tPairs trs σ H Q →
    wpAny (model X.prog X.w) X.A (evalPairs (pairTrees keys values X.env pos)) (fun vs s' => ∃ ps H', Inv X pins σ H' s' ∧ VV ps vs ∧ Q ps H') X.xe s
theorem pps_nil {X : Cx} {pos : Pos} : PPs X pos [] [] [] := fun pins s σ H Q I h => pairTrees_nil_walk ⟨[], H, I, .nil, h⟩
theorem pps_cons {X : Cx} {pos : Pos} {k v : Expr} {ks : List (Option Expr)} {vs : List Expr} {tk tv : TE} {trs : List (TE × TE)} (hk : PE X k tk) (hv : PE X v tv) (hr : PPs X pos ks vs trs) :
    PPs X pos (some k :: ks) (v :: vs) ((tk, tv) :: trs) := fun pins s σ H Q I h =>
  pairTrees_cons_walk (thn (hk pins s σ H _ I h) fun u s1 ⟨x, H1, I1, rx, q1⟩ => thn (hv pins s1 σ H1 _ I1 q1) fun w2 s2 ⟨y, H2, I2, ry, q2⟩ =>
    thn (hr pins s2 σ H2 _ I2 q2) fun ws s3 ⟨ps, H3, I3, rel, q3⟩ => ⟨(x, y) :: ps, H3, I3, .cons ⟨rx, ry⟩ rel, q3⟩)
def mergeK (kvs more : List (Key × V)) : List (Key × V) := more.foldl (fun acc kv => putK acc kv.1 kv.2) kvs
theorem KV.merge : ∀ {more : List (Key × V)} {rs : List (Key × Value)} {kvs : List (Key × V)} {vs : List (Key × Value)}, KV more rs → KV kvs vs → KV (mergeK kvs more) (merged vs rs) := by
  intro more rs kvs vs r
  unfold KV at r
  induction r generalizing kvs vs with
  | nil => intro q; exact q
  | @cons p q ps qs h t ih =>
    intro r0
    have e : KV (putK kvs p.1 p.2) (stored vs q.1 q.2) := by
      have := r0.put p.1 h.2
      rw [← h.1]; exact this
    exact ih e
theorem length_mergeK : ∀ (more kvs : List (Key × V)), (mergeK kvs more).length ≤ kvs.length + more.length
  | [], kvs => by show kvs.length ≤ kvs.length + 0; omega
  | p :: r, kvs => by
    have h1 := length_mergeK r (putK kvs p.1 p.2)
    have h2 := length_putK kvs p.1 p.2
    show (mergeK (putK kvs p.1 p.2) r).length ≤ _
    rw [List.length_cons]; omega
theorem carries_of {P : Program} {w : World} : ∀ {kvs : List (Key × V)} {ws : List (Value × Value)}, VV (kvs.map fun kv => (kV kv.1, kv.2)) ws → ∃ rs, Carries (mixKind P w) ws rs ∧ KV kvs rs
  | [], _, r => by rw [List.map_nil] at r; cases r; exact ⟨[], True.intro, .nil⟩
  | p :: kvs, _, r => by
    rw [List.map_cons] at r
    cases r with
    | @cons a b as bs h t =>
      obtain ⟨rs, c, q⟩ := carries_of (P := P) (w := w) t
      obtain ⟨b1, b2⟩ := b
      exact ⟨(p.1, b2) :: rs, ⟨kV_is h.1, rfl, c⟩, .cons ⟨rfl, h.2⟩ q⟩
def tDisp (trs : List (TE × TE)) : TE := fun σ H Q => ∀ p, H p = none → tPairs trs σ (upd H p (.dK [])) fun ps H2 => H2 p = some (.dK []) ∧ ∃ kvs : List (Key × V), ps = kvs.map (fun kv => (kV kv.1, kv.2)) ∧ kvs.length ≤ 15 ∧ Q (.ref p) (upd H2 p (.dK (mergeK [] kvs)))
theorem pe_disp {X : Cx} {pos : Pos} {keys : List (Option Expr)} {values : List Expr} {trs : List (TE × TE)} (h : PPs X pos keys values trs) (hall : keys.all (·.isSome) = true) (hl : keys.length = values.length) (h0 : keys ≠ [])
    (h15 : keys.length ≤ 15) : PE X (.Dict keys values pos) (tDisp trs) := by
  intro pins s σ H Q I q
  have hn := I.hok.fresh (Nat.le_refl s.heap.objs.size)
  have I1 := I.laid (a := s.heap.objs.size) (o := .dK []) (h' := s.heap.push { cls := .type "dict", data := .dict #[] }) (t' := s.toks) (fun _ _ q => Heap.get?_push_of_some _ q) (Nat.le_refl _) (dk_empty s.heap I.big)
  refine wpAny_Dict_walk (knd := mixKind X.prog X.w) hall hl h0 h15 (thn (h pins _ σ _ _ I1 (q _ hn)) fun ws s2 hm0 => ?_)
  obtain ⟨ps, H2, I2, rel, e, kvs, ep, lk, q2⟩ := hm0
  subst ep
  obtain ⟨rs, c, rk⟩ := carries_of (P := X.prog) (w := X.w) rel
  obtain ⟨z, hd, vs0, r0, dd⟩ := dk_of I2.hok e
  cases r0
  refine ⟨rs, c, dd, fun h' dd' hs => ⟨.ref s.heap.objs.size, _, ?_, rfl, q2⟩⟩
  have hz : (mergeK [] kvs).length ≤ sizeLine := by
    have h1 := length_mergeK kvs []
    rw [List.length_nil] at h1
    rw [sizeLine_eq]; omega
  have he : ∃ q, h'.get? s.heap.objs.size = some q := let ⟨q, _, _, hq, _⟩ := dd'; ⟨q, hq⟩
  exact d_write I2 (by rw [e]; exact True.intro) hs he (dk_new hz hd (rk.merge .nil) dd')
structure M2 (X : Cx) (o : Expr) (m : Str) (apos : Pos) (e f : Expr) (cpos : Pos) : Prop where
  base : attributeBase o m X.env (eval o X.env) = eval o X.env
  few : ((backTo cpos (starEach [e, f] X.env)).all (fun x => !x.1) && (backToKw cpos (keywordEach [] X.env)).all (fun x => x.1.isSome)
    && decide (([e, f] : List Expr).length + ([] : List Keyword).length + (if ([] : List Keyword).isEmpty then 0 else 1) < 30)) = true
  line : (apos.endLine == cpos.line) = true
  trees : backTo cpos (starEach [e, f] X.env) = [(false, eval e X.env), (false, eval f X.env)]
def IsD (H : Hp) (a : Addr) : Prop := (∃ kvs, Rd H a (.dK kvs)) ∨ ∃ kvs, Rd H a (.dT kvs)
theorem isD_at {X : Cx} {pins : List (Addr × Obj)} {σ : St} {H : Hp} {s : Shared} {a : Addr} (I : Inv X pins σ H s) (d : IsD H a) :
    s.TypeIs (.ref a) "dict" ∧ (∀ b, Value.ref a = .ref b → ∃ ob, s.heap.get? b = some ob ∧ ob.dict = none) ∧ (a == sysModules) = false := by
  rcases d with ⟨kvs, e⟩ | ⟨kvs, e⟩
  · obtain ⟨_, hd, vs, _, dd⟩ := dk_rd I.hok e
    refine ⟨dd.typeIs, fun b q => ?_, hd⟩
    cases q
    obtain ⟨ob, _, _, h1, h2, _⟩ := dd
    exact ⟨ob, h1, h2.2.1⟩
  · obtain ⟨_, hd, xs, _, dd⟩ := dt_rd I.hok e
    refine ⟨dd.typeIs, fun b q => ?_, hd⟩
    cases q
    obtain ⟨ob, _, _, h1, h2, _⟩ := dd
    exact ⟨ob, h1, h2.2.1⟩
section
variable {X : Cx} {pins : List (Addr × Obj)} {σ : St} {H : Hp} {s : Shared} {a : Addr} {y d : V} {u r : Value} {o : Option V} {A : Around} {E : Value → Shared → Prop}
theorem d_get2 {Q : Value → Shared → Prop} (hu : A.units + 1 < cLine) (I : Inv X pins σ H s) (g : DGet H a y o) (ry : RelV y u) (rd : RelV d r) (h : ∀ w' s', Inv X pins σ H s' → RelV (o.getD d) w' → Q w' s') :
    wpAny (model X.prog X.w) A (call (.builtin "dict.get") [.ref a, u, r]) Q E s := by
  rcases g with ⟨kvs, k, e, ey, l⟩ | ⟨kvs, k, b, e, ey, eb, l⟩
  · subst ey
    obtain ⟨z, hd, vs, rel, dd⟩ := dk_rd I.hok e
    refine call_meetsIn PySem.F.slot_dict_get dd.typeIs PySem.F.entry_dict_get (PySem.F.args_dict_get_3 _ _ _) (meets_dict_get_default (mixKind X.prog X.w) a (kV_is ry) hd r) ⟨_, dd.mapOf, h _ _ (I.tok _) ?_⟩
    rw [l]
    exact (rel.val k).getD rd
  · subst ey
    cases (show u = Value.ref b from ry)
    obtain ⟨z, hd, xs, rel, dd⟩ := dt_rd I.hok e
    refine call_meetsIn PySem.F.slot_dict_get dd.typeIs PySem.F.entry_dict_get (PySem.F.args_dict_get_3 _ _ _) (meetsH_dict_get_default (tupleKind (mixKind X.prog X.w)) a b hd r) ⟨tupleKind_room_in1 hu, k, xs, key_of I.hok eb, dd, h _ _ (I.tok _) ?_⟩
    rw [l]
    exact (rel.val k).getD rd
end
def tDGet2 (td ty tx : TE) : TE := fun σ H Q => td σ H fun x H1 => ∃ a, x = .ref a ∧ IsD H1 a ∧ ty σ H1 fun y H2 => tx σ H2 fun z H3 => ∃ o, DGet H3 a y o ∧ Q (o.getD z) H3
section
variable {X : Cx} {o e f : Expr} {apos cpos : Pos} {td ty tx : TE}
theorem pe_dget2 (hu : X.A.units + 1 < cLine) (ho : PE X o td) (he : PE X e ty) (hf : PE X f tx) (m : M2 X o "get" apos e f cpos) : PE X (.Call (.Attribute o "get" apos) [e, f] [] cpos) (tDGet2 td ty tx) := by
  intro pins s σ H Q I h
  refine wpAny_Call_method m.base m.few m.line PySem.F.plainAttrs_dict PySem.F.slot_dict_get PySem.F.type_dict_get (thn (ho pins s σ H _ I h) fun u s1 hm0 => ?_)
  obtain ⟨x, H1, I1, rx, a, ex, d, q1⟩ := hm0
  subst ex
  obtain rfl : u = Value.ref a := rx
  obtain ⟨t1, t2, _⟩ := isD_at I1 d
  refine ⟨t1, t2, ?_⟩
  rw [m.trees]
  refine Calls.callWith_builtin rfl (Calls.evalArgs_plain (Calls.spliced_cons (thn (he pins s1 σ H1 _ I1 q1) fun iv s2 ⟨y, H2, I2, ry, q2⟩ =>
    Calls.spliced_cons (thn (hf pins s2 σ H2 _ I2 q2) fun fv s3 ⟨z, H3, I3, rz, ov, g, q3⟩ => Calls.spliced_nil ?_))))
  exact d_get2 hu I3 g ry rz fun w' s4 I4 rw' => ⟨_, H3, I4, rw', q3⟩
end
section
variable {X : Cx} {pins : List (Addr × Obj)} {σ : St} {H : Hp} {s : Shared} {a : Addr} {kvs : List (Key × V)} {A : Around} {E : Value → Shared → Prop}
end
section
variable {X : Cx} {pins : List (Addr × Obj)} {σ : St} {H : Hp} {s : Shared} {a : Addr} {y : V} {u : Value} {A : Around} {E : Value → Shared → Prop}
end
end L2
namespace Att
open PySem PySem.W PySem.Calls PyProof.Rows
theorem ints_of_wellAll {P : Params} {h : Heap} : ∀ (ns : List Int) (vs : List Value), WellAll P h vs (ns.map WData.int) → IntsAre vs ns := by
  intro ns
  induction ns with
  | nil =>
    intro vs w
    rw [List.map_nil] at w
    cases w
    exact .nil
  | cons n ns ih =>
    intro vs w
    rw [List.map_cons] at w
    cases w with
    | cons a b =>
      cases a
      exact .cons _ _ (ih _ b)
theorem script_of {l : OpenLaw} {n : Nat} (hn : l.most = some n) {P : Params} {h : Heap} {args : List WData} {vals : List Value}
    (hpre : l.row.toRowW.claim.pre args = true) (hwl : WellAll P h vals args) :
    ∃ a vs ns, vals = [Value.ref a] ∧ args = [WData.list (ns.map WData.int)] ∧ h.get? a = some { cls := .type "list", data := .seq vs.toArray } ∧ IntsAre vs ns ∧ ns.length ≤ n := by
  have hsh : WShape.hasAll [] args [.list .int] = true := (pre_splitW hpre).1
  have hc : l.pre.holds [] { args := args } = true := (pre_splitW hpre).2
  obtain ⟨d, r, rfl, h1, h2⟩ := hasAllW_cons hsh
  obtain rfl := hasAllW_nil h2
  obtain ⟨xs, rfl, h3⟩ := hasW_list h1
  obtain ⟨ns, rfl⟩ := items_int h3
  have hlen : ns.length ≤ n := by
    unfold OpenLaw.pre at hc
    have h4 : (WTm.not (.lt (.lit (.int (n : Int))) (.len (.arg 0)))).holds [] { args := [.list (ns.map .int)] } = true := by
      have h4 := (holds_andW hc).1
      rw [hn] at h4
      exact h4
    have h5 := condW_of h4 (w_not (w_lt w_lit (w_len_list (w_arg rfl))))
    rw [List.length_map] at h5
    refine Nat.le_of_not_lt fun q => ?_
    have q' : (n : Int) < ((ns.length : Nat) : Int) := by omega
    first
      | (rw [decide_eq_true q'] at h5; exact absurd h5 (by decide))
      | (simp at h5; omega)
  cases hwl with
  | cons w1 w2 =>
    cases w2
    cases w1 with
    | list ho hall => exact ⟨_, _, ns, rfl, rfl, ho, ints_of_wellAll ns _ hall, hlen⟩
theorem post_true (l : OpenLaw) (args : List WData) : l.row.toRowW.claim.post args (.bool true) args = true :=
  postW_of (r := l.row.toRowW) (X := (true == true))
    (show WShape.has [] (.bool true) .bool = true by first | rfl | decide | simp [WShape.has, WShape.arms, WShape.armsAll])
    (show (WTm.eq .res (.lit (.bool true))).value [] { args := args, res := some (.bool true), after := args } = some (.bool (true == true)) from w_eq_bool (w_res rfl) w_lit) rfl
theorem attach_call {l : OpenLaw} {n : Nat} {q : Program} {loose : List Str} {XP : (Str → Option Value) → Heap → Prop} {YP : World → Heap → Prop} {d : DefRec}
    (hn : l.most = some n) (hdf : d.params.defaults = [])
    (call : ∀ (w : World) (s₀ s₁ : Shared) (mg mb : Str → Option Value) (fa : Addr) (o : Obj) (pm cd doc : Value) (a : Addr) (vs : List Value) (ns : List Int),
      Ground q loose [] XP w s₀ mg mb s₁.heap → YP w s₁.heap →
      s₁.heap.get? fa = some o → o.data = .func (docDef d.name d.params d.body d.scope pm cd doc) → s₁.heap.CodeRec cd d.name → mg d.name = some (.ref fa) →
      s₁.heap.get? a = some { cls := .type "list", data := .seq vs.toArray } → IntsAre vs ns → ns.length ≤ n → s₁.gens = #[] →
      codeAny (model l.prog w) callerA (.call (.ref fa) ⟨[.ref a], []⟩) (fun r s' => r = .ok (.ret (.bool true)) ∧ OldK s₁.heap s'.heap ∧ s'.os = s₁.os ∧ AllBare s'.gens) s₁) :
    WalkO q loose XP YP l.row.toRowW d [] (fun f vs => PySem.call f vs) := by
  intro w s₀ s₁ mg mb G Y fa o pm cd doc dV kV ho hd hcd hD hmg hg args vals as hpre hlay hrd hwl hlo
  obtain rfl : dV = .none := Dflts.none hD hdf
  obtain rfl : kV = .none := Dflts.noKw hD
  obtain ⟨a, vs, ns, rfl, rfl, hobj, hints, hlen⟩ := script_of hn hpre hwl
  refine enter_call (codeAny_mono (call w s₀ s₁ mg mb fa o pm cd doc a vs ns G Y ho (fd_plain hd) hcd hmg hobj hints hlen hg) fun r s' hq => ?_)
  obtain ⟨rfl, h2, h3, h4⟩ := hq
  exact ⟨.inl ⟨.bool true, .bool true, [], rfl, fun _ => rfl, .bool true, post_true l _, fun _ => ⟨List.Pairwise.nil, fun _ hm => (nomatch hm)⟩⟩, h2, h3, h4⟩
section
variable {prog : Program} {w : World} {A : Around} {E : Value → Shared → Prop} {s : Shared} {K : Frag}
end
end Att
namespace L2
open PySem PySem.Spec PyProof.Rows
theorem vals_ints : ∀ {vs : List Value} {ns : List Int}, IntsAre vs ns → Vals (ns.map V.int) vs
  | _, _, .nil => .nil
  | _, _, .cons n t h => .cons ⟨t, rfl⟩ (vals_ints h)
def Only (H : Hp) : Prop := ∀ b, H b = none ∨ ∃ o xs, H b = some (.frz o (.lst xs))
theorem law_call {P : Program} {w : World} {K : PySem.W.Frag} {mg mb : Str → Option Value} {CX : CXT} {k : Nat} {fa a : Addr} {fd : FuncData} {x : Str} {sp : Sp} {s₁ : Shared} {vs : List Value} {ns : List Int}
    (KX : K.In s₁.heap) (hns : s₁.heap.Ns mainGlobals mg) (hb : s₁.heap.Ns builtinsNs mb) (hbb : ∀ x : Str, x ≠ "__name__" → mb x = bootBuiltins x) (hlim : s₁.heap.NoLimit) (hg : s₁.gens = #[])
    (ha : s₁.heap.get? a = some { cls := .type "list", data := .seq vs.toArray }) (hi : IntsAre vs ns) (hl : ns.length ≤ sizeLine) (hr : Room k callerA)
    (F : ∀ base : Heap, K.In base → base.Ns mainGlobals mg → FnOk P w K mg base CX k fa fd [x] sp) (hbind : ∀ (s : Shared) (u : Value), BindsTo s fd ⟨[u], []⟩ [(x, u)])
    (hsp : ∀ H : Hp, Only H → SqL K H a (ns.map V.int) → sp [.ref a] H (fun v _ => v = .bl true) fun _ _ _ => False)
    (hCX : ∀ H e s', CX [] H s₁ (fun _ _ _ => False) e s' → False) :
    codeAny (model P w) callerA (.call (.ref fa) ⟨[.ref a], []⟩) (fun r s' => r = .ok (.ret (.bool true)) ∧ OldK s₁.heap s'.heap ∧ s'.os = s₁.os ∧ AllBare s'.gens) s₁ := by
  have rv := vals_ints hi
  have lenV := hi.length
  have core : ∀ H : Hp, Only H → SqL K H a (ns.map V.int) → HOk P w H s₁.heap → (∀ b, H b ≠ none → b = a) → (H a ≠ none → K.lookup a = none) →
      codeAny (model P w) callerA (.call (.ref fa) ⟨[.ref a], []⟩) (fun r s' => r = .ok (.ret (.bool true)) ∧ OldK s₁.heap s'.heap ∧ s'.os = s₁.os ∧ AllBare s'.gens) s₁ := by
    intro H hO hS hok hA hK
    have base_of : ∀ {b : Addr} {o : Obj}, s₁.heap.get? b = some o → H b = none → (hidT s₁.heap H).get? b = some o := fun e n => hidT_get e n
    have noA : ∀ {b : Addr} {o : Obj} {es : Array DictEntry} {ep : Nat}, s₁.heap.get? b = some o → o.data = .dict es ep → H b = none := fun {b o es ep} e d => by
      cases q : H b with
      | none => rfl
      | some u =>
        have e' : b = a := hA b (by rw [q]; simp)
        subst e'
        rw [ha] at e; cases e
        have d' : Data.seq vs.toArray _ = Data.dict es ep := d
        cases d'
    have nsK : ∀ {b : Addr} {m : Str → Option Value}, s₁.heap.Ns b m → (hidT s₁.heap H).Ns b m := fun {b m} ⟨o, es, ep, e, d, r⟩ => ⟨o, es, ep, base_of e (noA e d), d, r⟩
    have hKb : K.In (hidT s₁.heap H) := fun b o e => base_of (KX b o e) (by
      cases q : H b with
      | none => rfl
      | some u =>
        have e' : b = a := hA b (by rw [q]; simp)
        subst e'
        rw [hK (by rw [q]; simp)] at e; cases e)
    have hM : Mod K mg (hidT s₁.heap H) := ⟨hKb, nsK hns, ⟨mb, nsK hb, hbb⟩, let ⟨mc, h1, h2⟩ := hlim; ⟨mc, nsK h1, h2⟩⟩
    have e0 : Env0 P w K mg (hidT s₁.heap H) callerA [] s₁ H := ⟨rfl, hM, fun b o e => of_hidT e, Nat.le_of_eq (hidT_size _ _), trivial, fun b hb => absurd (show b ∈ ([] : List Addr) from hb) (by simp), hok, .of_eq hg⟩
    refine codeAny_mono ((F _ hKb (nsK hns)).run callerA [] s₁ H ⟨[.ref a], []⟩ [.ref a] [.ref a] _ _ hr e0 (hbind s₁ (.ref a)) (.cons rfl .nil) (hsp H hO hS)) fun r s' h => ?_
    cases r with
    | error e => exact (hCX H e s' h).elim
    | ok fl =>
      cases fl with
      | next => exact False.elim h
      | brk => exact False.elim h
      | cont => exact False.elim h
      | ret u =>
        obtain ⟨v, H', os, bare, un, hok', r', q⟩ := h
        have q' : v = .bl true := q
        subst q'
        obtain rfl : u = Value.bool true := r'
        refine ⟨rfl, OldK.of_keep fun b o e => ?_, os, bare⟩
        cases q : H b with
        | none => exact un.keep b o e q (by intro z; exact absurd (show b ∈ ([] : List Addr) from z) (by simp)) (by simp)
        | some u =>
          rcases hO b with z | ⟨ob, xs, z⟩
          · rw [q] at z; cases z
          · have z2 := un.frzs b ob _ z
            obtain ⟨e1, _⟩ := hok b _ z
            obtain ⟨e2, _⟩ := hok' b _ z2
            rw [e] at e1; cases e1
            exact e2
  cases hk : K.lookup a with
  | some o =>
    have e := KX a o hk
    rw [ha] at e
    cases e
    refine core (fun _ => none) (fun _ => .inl rfl) (.inr ⟨_, vs.toArray, _, hk, rfl, rfl, rfl, by rw [List.size_toArray, lenV]; exact hl, by simpa using rv⟩) (fun b u z => by have z' : (none : Option HO) = some u := z; cases z') (fun b z => absurd rfl z) fun z => absurd rfl z
  | none =>
    refine core (fun b => if b = a then some (.frz { cls := .type "list", data := .seq vs.toArray } (.lst (ns.map V.int))) else none) (fun b => ?_) (.inl (.inr ⟨{ cls := .type "list", data := .seq vs.toArray }, if_pos rfl⟩)) (fun b u z => ?_) (fun b z => ?_) fun _ => hk
    · by_cases hb : b = a
      · exact .inr ⟨_, _, if_pos hb⟩
      · exact .inl (if_neg hb)
    · by_cases hb : b = a
      · have z' := (if_pos hb).symm.trans z
        cases z'
        subst hb
        exact ⟨ha, by rw [List.length_map]; exact hl, vs, _, rv, ha⟩
      · have z' := (if_neg hb).symm.trans z
        cases z'
    · by_cases hb : b = a
      · exact hb
      · exact absurd (if_neg hb) z
end L2
namespace L2
open PySem PySem.Spec PyProof.Rows
end L2
/- THE LAST THEOREM (shape; LID, My.* are yours):
   My.Adr: a structure of the addresses that your layer names (classes, functions); My.Txt K t: a structure (Prop) of the equations over K;
   My.txt_mk : {K} {implicit addresses ..} (e1 : nsIn K mainGlobals "law" = some (some (.ref f))) (e2 : K.lookup f = some ⟨oc, od, .func (fnOf "law" "law" params body scope dV kV doc pm an cdv ct), sl⟩) (e3 : codeIn K cdv "law" = true) .. : ∃ t, My.Txt K t
set_option maxRecDepth 100000 in
set_option maxHeartbeats 0 in
theorem PySem.Challenge.cw_LID_holds : PySem.Challenge.rw_LID.Holds := by
  w_on; o_law; k_head; (case hw => w_witness2)
  k_fill
  refine L2.walk_of (l := PySem.Challenge.rw_LID) (n := 63) (k := 40) (x := "script") (CX := fun w => ..) (sp := fun _ => My.sp_law) rfl (by decide) rfl ⟨rfl, by decide, by decide⟩ (fun w h Y => PySem.W.kIn_of Y) ?F ?S ?C
  case F =>
    intro w mg fa h KX G hmg
    have T : ∃ t, My.Txt (L2.KOf KX) t := by
      dsimp only [L2.KOf]                          -- K must stand as «<heap const> w.params» for k_is
      refine' My.txt_mk ?e1 ?e2 ?e3 ..
      (case e1 => PySem.W.k_is)                    -- in the order: a name -> its address -> its object -> its parts
      (case e2 => PySem.W.k_is)
      ..
    obtain ⟨t, T⟩ := T
    have e0 := hmg.symm.trans (PySem.W.mg_of KX G T.law)
    cases e0                                       -- fa is the law's own address
    exact ⟨_, fun s u => .of_eq rfl, fun base kb nb => My.law_fn T kb nb⟩     -- if «.of_eq rfl» comes too early: refine' ⟨_, ?b, fun base kb nb => My.law_fn T kb nb⟩; exact fun s u => .of_eq rfl
  case S => exact fun w H a ns hl hO hS => ..
  case C => exact ..
(the tactic k_is has no namespace: write k_is) -/
namespace L2
open PySem PySem.Spec PyProof.Rows
def inClass (s : Stmt) (j : Nat) : Stmt := match s with
  | .ClassDef _ _ _ body _ _ _ _ _ _ _ => body.getD j (.Pass ⟨0, 0, 0, 0⟩)
  | _ => .Pass ⟨0, 0, 0, 0⟩
def defArgs (s : Stmt) : Arguments := match s with
  | .FunctionDef _ a _ _ _ _ _ _ _ _ => a
  | _ => { posonlyargs := [], args := [], vararg := none, kwonlyargs := [], kw_defaults := [], kwarg := none, defaults := [] }
def defBody (s : Stmt) : List Stmt := match s with
  | .FunctionDef _ _ b _ _ _ _ _ _ _ => b
  | _ => []
def defScope (s : Stmt) : Scope := match s with
  | .FunctionDef _ _ _ _ _ _ sc _ _ _ => sc
  | _ => { kind := .function, names := [], isGenerator := false, isCoroutine := false }
abbrev CX0 : CXT := fun _ _ _ _ _ _ => False
abbrev E0 : XK := fun _ _ _ => False
theorem pass0 {X : Cx} : Passes CX0 X E0 := fun _ _ _ _ _ _ _ h => h.elim
structure Fun (K : PySem.W.Frag) (x qual : Str) (st : Stmt) (f : Addr) (fd : FuncData) : Prop where
  ex : ∃ (oc : Value) (od : Option Addr) (kV doc pm : Value) (an : Option Addr) (cdv ct : Value) (osl : Array (Option Value)),
    fd = PySem.W.fnOf x qual (defArgs st) (defBody st) (defScope st) .none kV doc pm an cdv ct ∧ K.lookup f = some ⟨oc, od, .func fd, osl⟩ ∧ PySem.W.codeIn K cdv qual = true
  kp : PySem.W.keepIn K (.ref f) = true
section
variable {P : Program} {w : World} {K : PySem.W.Frag} {mg : Str → Option Value} {base : Heap}
theorem Fun.ok {x qual : Str} {st : Stmt} {f : Addr} {fd : FuncData} {N ps : List Str} {k : Nat} {sp : Sp} (F : Fun K x qual st f fd) (S : FnScope N ps (defScope st)) (len : ∀ vs H Q E, sp vs H Q E → vs.length = ps.length)
    (hbody : ∀ (cdv : Value) (A : Around) (outer : List Env) (s : Shared) (H : Hp) (vs : List V) (Q : VK) (E : XK), Room k (A.deeper (envOfC qual (defScope st) s.heap.objs.size f cdv)) → sp vs H Q E →
      ∃ t, PSs (cxOf CX0 P w K mg base N qual (defScope st) f cdv A outer s H E).nox (defBody st) t ∧ t { nx := fun _ H' => Q .non H', rt := Q } (start N vs) H) : FnOk P w K mg base CX0 (k + 1) f fd ps sp := by
  obtain ⟨oc, od, kV, doc, pm, an, cdv, ct, osl, rfl, lk, hcd⟩ := F.ex
  refine fn_of lk hcd S len fun A outer s H vs Q E hr hsp => ?_
  obtain ⟨t, h, q⟩ := hbody cdv A outer s H vs Q E hr hsp
  exact ⟨t, h.nox, q⟩
theorem Fun.binds {x qual : Str} {st : Stmt} {f : Addr} {fd : FuncData} {ps : List Str} (F : Fun K x qual st f fd)
    (h : ∀ (kV doc pm : Value) (an : Option Addr) (cdv ct : Value) (us : List Value), us.length = ps.length → bindArgs (PySem.W.fnOf x qual (defArgs st) (defBody st) (defScope st) .none kV doc pm an cdv ct) ⟨us, []⟩ = pure (ps.zip us)) : Binds K fd ps [] := by
  obtain ⟨oc, od, kV, doc, pm, an, cdv, ct, osl, rfl, lk, hcd⟩ := F.ex
  exact .all (h kV doc pm an cdv ct)
theorem fun_mk {x qual : Str} {st : Stmt} {f : Addr} {oc : Value} {od an : Option Addr} {osl : Array (Option Value)} {kV doc pm cdv ct : Value} (l : K.lookup f = some ⟨oc, od, .func (PySem.W.fnOf x qual (defArgs st) (defBody st) (defScope st) .none kV doc pm an cdv ct), osl⟩)
    (c : PySem.W.codeIn K cdv qual = true) (k : PySem.W.keepIn K (.ref f) = true) : Fun K x qual st f (PySem.W.fnOf x qual (defArgs st) (defBody st) (defScope st) .none kV doc pm an cdv ct) := ⟨⟨oc, od, kV, doc, pm, an, cdv, ct, osl, rfl, l, c⟩, k⟩
end
section
variable {X : Cx}
theorem pv (i : Nat) {x : Str} {pos : Pos} (hN : X.N[i]? = some x := by rfl) (hv : Vis X.env.scope x := by first | exact Or.inl rfl | exact Or.inr (Or.inl rfl) | exact Or.inr (Or.inr rfl)) (hd : (x == ("__debug__" : Str)) = false := by decide)
    (hcd : (x == ("__classdict__" : Str)) = false := by decide) : PE X (.Name x pos) (tVar i) := pe_var hN hv hd hcd
end
theorem iteF {A B : Prop} (h : B) : if false = true then A else B := by
  rw [if_neg Bool.false_ne_true]
  exact h
theorem iteT {A B : Prop} (h : A) : if true = true then A else B := by
  rw [if_pos rfl]
  exact h
theorem ite2 {c A B : Prop} [Decidable c] (h1 : c → A) (h2 : ¬ c → B) : if c then A else B := by
  by_cases h : c
  · rw [if_pos h]
    exact h1 h
  · rw [if_neg h]
    exact h2 h
def Same (H H' : Hp) : Prop := ∀ b o, H b = some o → H' b = some o
theorem Same.refl (H : Hp) : Same H H := fun _ _ h => h
theorem Same.trans {H H1 H2 : Hp} (a : Same H H1) (b : Same H1 H2) : Same H H2 := fun c o h => b c o (a c o h)
theorem Same.free {H H' : Hp} (e : Same H H') {l : Addr} (h : H' l = Option.none) : H l = Option.none := by
  cases q : H l with
  | none => rfl
  | some o =>
    rw [e l o q] at h
    cases h
theorem Same.seq {K : PySem.W.Frag} {H H' : Hp} {a : Addr} {xs : List V} (e : Same H H') (h : SqL K H a xs) : SqL K H' a xs := by
  rcases h with (h | ⟨o, h⟩) | h
  · exact .inl (.inl (e _ _ h))
  · exact .inl (.inr ⟨o, e _ _ h⟩)
  · exact .inr h
section
variable {κ : Type} [DecidableEq κ]
end
end L2
set_option Elab.async false
set_option linter.all false
set_option maxRecDepth 100000
set_option maxHeartbeats 4000000
namespace L2
open PySem PySem.Spec PyProof.Rows
theorem clos_aux {env : Env} : ∀ (names : List (Str × NameKind)) (cs : List (Str × Addr)), (∀ x ∈ names, x.2 = .free → ∃ c, env.cells.lookup x.1 = some c) → (∀ x c, cs.lookup x = some c → env.cells.lookup x = some c) →
    ∃ cl : List (Str × Addr), (forIn names cs fun x r => if (x.snd == NameKind.free) = true then (do let a ← cellOf env x.fst; pure (ForInStep.yield ((x.fst, a) :: r)) : Sem (ForInStep (List (Str × Addr)))) else pure (ForInStep.yield r)) = pure cl ∧
      (∀ x c, cl.lookup x = some c → env.cells.lookup x = some c) ∧ ∀ x, ((x, NameKind.free) ∈ names ∨ ∃ c, cs.lookup x = some c) → ∃ c, cl.lookup x = some c
  | [], cs, _, h2 => ⟨cs, rfl, h2, fun x hx => hx.elim (fun z => nomatch z) id⟩
  | (n, k) :: r, cs, h1, h2 => by
    rw [List.forIn_cons]
    by_cases hk : k = .free
    · subst hk
      obtain ⟨c, hc⟩ := h1 (n, .free) List.mem_cons_self rfl
      obtain ⟨cl, e, q1, q2⟩ := clos_aux r ((n, c) :: cs) (fun x hx => h1 x (List.mem_cons_of_mem _ hx)) (fun x d hd => by
        rw [List.lookup_cons] at hd
        split at hd
        · rename_i hx
          cases hd
          have : x = n := by simpa using hx
          subst this; exact hc
        · exact h2 x d hd)
      refine ⟨cl, ?_, q1, fun x hx => q2 x ?_⟩
      · simp only [beq_self_eq_true, if_true]
        rw [show cellOf env n = pure c by unfold cellOf; rw [hc]]
        simp only [pure_bind]
        exact e
      · rcases hx with hx | ⟨d, hd⟩
        · rcases List.mem_cons.mp hx with z | z
          · cases z
            exact .inr ⟨c, by rw [List.lookup_cons]; simp⟩
          · exact .inl z
        · refine .inr ?_
          rw [List.lookup_cons]
          split
          · exact ⟨_, rfl⟩
          · exact ⟨d, hd⟩
    · obtain ⟨cl, e, q1, q2⟩ := clos_aux r cs (fun x hx => h1 x (List.mem_cons_of_mem _ hx)) h2
      have hb : (k == NameKind.free) = false := by simpa using hk
      refine ⟨cl, ?_, q1, fun x hx => q2 x ?_⟩
      · simp only [hb, Bool.false_eq_true, if_false, pure_bind]
        exact e
      · rcases hx with hx | hx
        · rcases List.mem_cons.mp hx with z | z
          · cases z; exact absurd rfl hk
          · exact .inl z
        · exact .inr hx
theorem clos_of {env : Env} {scope : Scope} (h : ∀ x ∈ scope.names, x.2 = .free → ∃ c, env.cells.lookup x.1 = some c) :
    ∃ cl : List (Str × Addr), closureFor scope env = pure cl ∧ (∀ x c, cl.lookup x = some c → env.cells.lookup x = some c) ∧ ∀ x, (x, NameKind.free) ∈ scope.names → ∃ c, cl.lookup x = some c := by
  obtain ⟨cl, e, q1, q2⟩ := clos_aux scope.names [] h (fun x c z => by simp at z)
  refine ⟨cl, ?_, q1, fun x hx => q2 x (.inl hx)⟩
  simp only [closureFor]
  rw [e]
  rfl
theorem comp_loop {prog : Program} {w : World} {A : Around} {R : Result → Shared → Prop} {s : Shared} {elt target iter : Expr} {ifs : List Expr} {scope : Scope} {pos : Pos} {it acc : Value} {env : Env} (I : Nat → Shared → Prop)
    (turn : ∀ n s, I n s → wpAny (model prog w) A (pyNext it) (fun r s₁ => match r with
      | none => R (.ok .next) s₁
      | some v => wpAny (model prog w) A (letOwnedTupleGo target it v) (fun _ s₁' => wpAny (model prog w) A (assign target env v) (fun _ s₂ =>
          wpAny (model prog w) A (forIn ifs true fun c r => if r = true then do let ok ← isTrue c env (eval c env); pure (ForInStep.yield ok) else pure (ForInStep.yield r)) (fun ok s₃ =>
            if ok = true then wpAny (model prog w) A (eval elt env) (fun x s₄ =>
              wpAny (model prog w) A (call (.builtin "list.append") [acc, x]) (fun _ s₅ => ∃ m, m < n ∧ I m s₅) (fun _ _ => False) s₄) (fun _ _ => False) s₃
            else ∃ m, m < n ∧ I m s₃) (fun _ _ => False) s₂) (fun _ _ => False) s₁') (fun _ _ => False) s₁) (fun _ _ => False) s)
    (n : Nat) (h : I n s) :
    codeAny (model prog w) A (.compLoop (.ListComp elt [⟨target, iter, ifs, 0⟩] scope pos) 0 it acc env) R s := by
  refine codeAny_loop rfl I (fun n s hI => ?_) n h
  show wpAny _ A ((compTurn (.ListComp elt [⟨target, iter, ifs, 0⟩] scope pos) 0 it acc env).onRaise (fun x => do noteFrame x env; theTreesLotGoes x)) _ _ s
  refine wpAny_noted ?_
  rw [compTurn_list]
  refine wpAny_bind (wpAny_standAt (wpAny_bind (wpAny_mono (turn n s hI) (fun r s₁ h₁ => ?_) fun _ _ h' => h'.elim)))
  cases r with
  | none => exact wpAny_pure h₁
  | some v =>
    refine wpAny_bind (wpAny_mono h₁ (fun _ s₁' h₁' => ?_) fun _ _ h' => h'.elim)
    refine wpAny_bind (wpAny_mono h₁' (fun _ s₂ h₂ => wpAny_bind (wpAny_mono h₂ (fun ok s₃ h₃ => ?_) fun _ _ h' => h'.elim)) fun _ _ h' => h'.elim)
    cases ok with
    | false => exact wpAny_pure ⟨rfl, h₃⟩
    | true =>
      exact wpAny_bind (wpAny_bind (wpAny_mono h₃ (fun x s₄ h₄ => wpAny_bind (wpAny_mono h₄ (fun _ s₅ h₅ => wpAny_pure (wpAny_pure ⟨rfl, h₅⟩)) fun _ _ h' => h'.elim)) fun _ _ h' => h'.elim))
end L2
set_option maxRecDepth 100000
namespace L2
open PySem PySem.Spec PyProof.Rows
abbrev compCx (X : Cx) (scope : Scope) (N : List Str) (cl : List (Str × Addr)) (C : Addr) (s : Shared) (H : Hp) (ex : List Addr) (pn : List (Addr × Obj)) : Cx where
  prog := X.prog
  w := X.w
  K := X.K
  mg := X.mg
  base := X.base
  A := X.A
  N := N
  s₀ := s
  H₀ := H
  env := compEnvC scope cl C X.env
  outer := X.stack
  stack := X.stack
  ex := ex
  calm := X.calm
  fn := fun _ => false
  pn := pn
  xe := fun _ _ => False
def PTs (X : Cx) (ifs : List Expr) (t : TT) : Prop :=
  ∀ (pins : List (Addr × Obj)) (s : Shared) (σ : St) (H : Hp) (Q : Bool → Hp → Prop), Inv X pins σ H s → t σ H Q →
    wpAny (model X.prog X.w) X.A (forIn ifs true fun c r => if r = true then do let ok ← isTrue c X.env (eval c X.env); pure (ForInStep.yield ok) else pure (ForInStep.yield r)) (TP X pins σ Q) X.xe s
def tYes : TT := fun _ H Q => Q true H
theorem pts_nil {X : Cx} : PTs X [] tYes := fun _ _ _ H _ I h => wpAny_tests_nil ⟨H, I, h⟩
abbrev TTg := V → Hp → (List V → Prop) → Prop
def PTg (X : Cx) (k : Nat) (tg : Expr) (tt : TTg) : Prop :=
  ∀ (pins : List (Addr × Obj)) (s : Shared) (σ : St) (H : Hp) (v : V) (u : Value) (Q : List V → Prop), Inv X pins σ H s → k ≤ σ.length → RelV v u → tt v H Q →
    wpAny (model X.prog X.w) X.A (assign tg X.env u) (fun _ s' => ∃ ws, ws.length = k ∧ Q ws ∧ Inv X pins (ws.map some ++ σ.drop k) H s') X.xe s
def ttName : TTg := fun v _ Q => Q [v]
theorem ptg_name {X : Cx} {x : Str} {pos : Pos} (hN : X.N.Nodup) (hi : X.N[0]? = some x) (hx : X.env.scope.names.lookup x = some .local) : PTg X 1 (.Name x pos) ttName := by
  intro pins s σ H v u Q I hl r h
  refine wpAny_assign_Name (store_ok I hN hi (.inl hx) r (fun s' I' => ⟨[v], rfl, h, ?_⟩) (.inr hx))
  cases σ with
  | nil => simp at hl
  | cons a t => exact I'
end L2
set_option maxRecDepth 100000
set_option maxHeartbeats 400000
namespace L2
open PySem PySem.Spec PyProof.Rows
end L2
set_option Elab.async false
set_option linter.all false
set_option maxRecDepth 100000
set_option maxHeartbeats 1000000
namespace L2
open PySem PySem.Spec PyProof.Rows
theorem HOk.adopt {P : Program} {w : World} {H : Hp} {h : Heap} {a : Addr} {o : HO} (x : HOk P w H h) (hn : H a = none) (new : ObjOk P w (upd H a o) h a o) : HOk P w (upd H a o) h := fun b u e => by
  by_cases hb : b = a
  · subst hb; rw [upd_same] at e; cases e; exact new
  · rw [upd_ne hb] at e
    exact (x b u e).stay (fun c v _ q => q) (fun c q => by rw [upd_ne (ne_of_none q hn)]; exact q) fun c xs q => by rw [upd_ne (ne_of_none q hn)]; exact q
theorem relabel_free {env : Env} {x : Str} : ∀ {names : List (Str × NameKind)}, names.lookup x = some .free →
    (names.map fun (n, k) => if (k == NameKind.free && env.scope.kind == .function && env.kindOf n == some .cell) then (n, NameKind.cell) else (n, k)).lookup x = some .cell ∨
    (names.map fun (n, k) => if (k == NameKind.free && env.scope.kind == .function && env.kindOf n == some .cell) then (n, NameKind.cell) else (n, k)).lookup x = some .free
  | [], h => by simp at h
  | (n, k) :: r, h => by
    have ih := @relabel_free env x r
    show (List.lookup x ((if (k == NameKind.free && env.scope.kind == .function && env.kindOf n == some .cell) = true then (n, NameKind.cell) else (n, k)) :: _) = _) ∨ (List.lookup x ((if (k == NameKind.free && env.scope.kind == .function && env.kindOf n == some .cell) = true then (n, NameKind.cell) else (n, k)) :: _) = _)
    cases hx : x == n with
    | true =>
      simp only [List.lookup_cons, hx] at h
      cases h
      split
      · left; simp [List.lookup_cons, hx]
      · right; simp [List.lookup_cons, hx]
    | false =>
      simp only [List.lookup_cons, hx] at h
      split
      · simp only [List.lookup_cons, hx]; exact ih h
      · simp only [List.lookup_cons, hx]; exact ih h
theorem relabel_back {env : Env} {x : Str} : ∀ {names : List (Str × NameKind)}, (∀ y ∈ names, y.2 ≠ .cell) →
    ((names.map fun (n, k) => if (k == NameKind.free && env.scope.kind == .function && env.kindOf n == some .cell) then (n, NameKind.cell) else (n, k)).lookup x = some .cell ∨
    (names.map fun (n, k) => if (k == NameKind.free && env.scope.kind == .function && env.kindOf n == some .cell) then (n, NameKind.cell) else (n, k)).lookup x = some .free) → (x, NameKind.free) ∈ names
  | [], _, h => by simp at h
  | (n, k) :: r, hc, h => by
    have ih := @relabel_back env x r (fun y hy => hc y (List.mem_cons_of_mem _ hy))
    have hk : k ≠ .cell := hc (n, k) List.mem_cons_self
    have h' : (List.lookup x ((if (k == NameKind.free && env.scope.kind == .function && env.kindOf n == some .cell) = true then (n, NameKind.cell) else (n, k)) :: _) = _) ∨ (List.lookup x ((if (k == NameKind.free && env.scope.kind == .function && env.kindOf n == some .cell) = true then (n, NameKind.cell) else (n, k)) :: _) = _) := h
    cases hx : x == n with
    | true =>
      have e : x = n := by simpa using hx
      subst e
      by_cases hc2 : (k == NameKind.free && env.scope.kind == .function && env.kindOf x == some .cell) = true
      · have : k = .free := by
          have := (Bool.and_eq_true_iff.mp (Bool.and_eq_true_iff.mp hc2).1).1
          simpa using this
        subst this; exact List.mem_cons_self
      · rw [if_neg hc2] at h'
        simp only [List.lookup_cons, hx] at h'
        rcases h' with h' | h'
        · exact absurd (Option.some.inj h') hk
        · cases h'; exact List.mem_cons_self
    | false =>
      refine List.mem_cons_of_mem _ (ih ?_)
      split at h' <;> (simp only [List.lookup_cons, hx] at h'; exact h')
structure CompOk (scope psc : Scope) (N PN : List Str) (k : Nat) (cap : List Nat) : Prop where
  kind : scope.kind = .function
  len : N.length = k + cap.length
  cell : ∀ y ∈ scope.names, y.2 ≠ .cell
  loc : ∀ y ∈ scope.names, y.2 = .local → scope.names.lookup y.1 = some .local
  free : ∀ y ∈ scope.names, y.2 = .free → psc.names.lookup y.1 = some .cell ∨ psc.names.lookup y.1 = some .free
  cap : ∀ j ∈ List.range cap.length, ∃ x i, N[k + j]? = some x ∧ cap[j]? = some i ∧ PN[i]? = some x ∧ scope.names.lookup x = some .free
  free2 : ∀ y ∈ scope.names, y.2 = .free → scope.names.lookup y.1 = some .free
def capS (σ : St) (cap : List Nat) : St := cap.map fun j => (σ[j]?).join
def tComp (wi : TI) (tt : TTg) (tc : TT) (te : TE) (cap : List Nat) : TE := fun σ H Q => wi σ H fun J H1 =>
  ∃ W : Nat → Nat → List V → Hp → Prop, (∃ m, W 0 m [] H1) ∧ ∀ i m ys H2, W i m ys H2 →
    (J.stop i H2 ∧ ys.length ≤ sizeLine ∧ ∀ p, H2 p = none → Q (.ref p) (upd H2 p (.lst ys))) ∨
    (J.go i H2 ∧ ∃ N : List V → Hp → Prop, (∀ ys' H', N ys' H' → ys'.length ≤ sizeLine ∧ ∃ m', m' < m ∧ W (i + 1) m' ys' H') ∧
      ∀ x H3, J.yld i H2 x H3 → tt x H3 fun ws => tc (ws.map some ++ capS σ cap) H3 fun b H4 =>
        if b = true then te (ws.map some ++ capS σ cap) H4 fun y H5 => N (ys ++ [y]) H5 else N ys H4)
structure Blk (X : Cx) (pins : List (Addr × Obj)) (H : Hp) (s : Shared) (C : Addr) : Prop where
  ns : ∃ m, s.heap.Ns C m
  un : H C = none
  ne : C ≠ X.env.locals
  new : X.s₀.heap.objs.size ≤ C
  cells : ∀ x c, X.env.cells.lookup x = some c → c ≠ C
  pins : ∀ p ∈ X.pn ++ pins, p.1 ≠ C
theorem Blk.turn {X : Cx} {pins : List (Addr × Obj)} {H : Hp} {σ : St} {s : Shared} {C : Addr} {h' : Heap} (B : Blk X pins H s C) (I : Inv X pins σ H s) (hs : Heap.SameBut C s.heap h') : Inv X pins σ H { s with heap := h' } :=
  I.turned (t' := s.toks) (fun b o hb e => hs.extBut b o hb e) B.un B.ne (.inr B.new) B.cells B.pins
theorem comp_start {X : Cx} {pins : List (Addr × Obj)} {σ : St} {H : Hp} {s : Shared} {scope : Scope} {N : List Str} {k : Nat} {cap : List Nat} {cl : List (Str × Addr)} {h₁ : Heap} {fp : List Addr} {tk : Nat} (I : Inv X pins σ H s) (S : CompOk scope X.env.scope N X.N k cap)
    (hcl1 : ∀ x c, cl.lookup x = some c → X.env.cells.lookup x = some c) (hcl2 : ∀ x, (x, NameKind.free) ∈ scope.names → ∃ c, cl.lookup x = some c)
    (hf : ∀ b ∈ fp, FpOk X pins H b) (ho : ∀ b ∈ fp, ∃ o, s.heap.get? b = some o)
    {m : Str → Option Value} (hns : h₁.Ns (s.heap.objs.size + 1) m)
    (hsb : ∀ b o, (s.heap.push { cls := .type "list", data := .seq #[] }).get? b = some o → h₁.get? b = some o) :
    Inv (compCx X scope N cl (s.heap.objs.size + 1) { s with heap := s.heap.push { cls := .type "list", data := .seq #[] } } H (s.heap.objs.size :: fp) (X.pn ++ pins))
      [(s.heap.objs.size, { cls := .type "list", data := .seq #[] })] (List.replicate k none ++ capS σ cap) H { s with heap := h₁, toks := tk } := by
  have Ik : Inv X pins σ H { s with heap := s.heap.push { cls := .type "list", data := .seq #[] } } := I.kept (t' := s.toks) fun b o e => Heap.get?_push_of_some _ e
  have hold : ∀ b o, s.heap.get? b = some o → h₁.get? b = some o := fun b o e => hsb b o (Heap.get?_push_of_some _ e)
  have ltD : ∀ {b o}, s.heap.get? b = some o → b < s.heap.objs.size := fun e => Heap.lt_size e
  have sizeP : (s.heap.push { cls := .type "list", data := .seq #[] }).objs.size = s.heap.objs.size + 1 := Heap.size_push ..
  have nD : H s.heap.objs.size = none := I.fresh
  have nC : H (s.heap.objs.size + 1) = none := I.hok.fresh (Nat.le_succ _)
  have cellLt : ∀ x c, X.env.cells.lookup x = some c → c < s.heap.objs.size := fun x c e => by
    obtain ⟨v, q⟩ := I.cell x c e
    exact q.lt
  have stkNe : ∀ b, b ≠ X.env.locals → b ∉ X.fs → b ∉ frs X.stack := fun b h1 h2 hb => (List.mem_cons.mp (I.stkSub b hb)).elim h1 h2
  have fpLt : ∀ b ∈ fp, b < s.heap.objs.size := fun b hb => by obtain ⟨o, e⟩ := ho b hb; exact Heap.lt_size e
  have hfn : ∀ {x : Str}, scope.names.lookup x = some .free → (x, NameKind.free) ∈ scope.names := fun e => PySem.mem_of_lookup e
  refine ⟨⟨I.ok.mod, S.kind, I.ok.glob, I.ok.blt, ?_, fun x y c h1 h2 => I.ok.inj x y c (hcl1 x c h1) (hcl1 y c h2), fun x hx => hcl2 x (relabel_back S.cell hx), fun x c z => (by cases z), I.ok.hd, I.ok.frames, .inl rfl, ?_, ?_, ?_, ?_, ?_, Ik.stack, I.stkFree⟩,
    rfl, I.bare, Un.kept hsb, ?_, ?_, nC, fun x c e => I.freeC x c (hcl1 x c e), ?_, I.hok.kept hold, ?_⟩
  · exact Nat.le_of_eq sizeP
  · intro b hb
    rcases List.mem_cons.mp hb with rfl | hb
    · exact ⟨Nat.ne_of_lt (Nat.lt_succ_self _), fun x c e => Nat.ne_of_lt (cellLt x c (hcl1 x c e))⟩
    · exact ⟨Nat.ne_of_lt (Nat.lt_succ_of_lt (fpLt b hb)), fun x c e => (hf b hb).2.2.2.2.1 x c (hcl1 x c e)⟩
  · intro b o e
    obtain ⟨e1, e2⟩ := I.bs b o e
    exact ⟨Heap.get?_push_of_some _ e1, e2⟩
  · show X.base.objs.size ≤ (s.heap.push _).objs.size
    rw [sizeP]
    exact Nat.le_succ_of_le (Nat.le_trans I.ok.bsz I.sz)
  · intro b o e hb
    obtain ⟨e1, e2⟩ := I.bs b o e
    rcases List.mem_cons.mp hb with rfl | hb
    · exact absurd (ltD e1) (Nat.lt_irrefl _)
    · rcases (hf b hb).2.2.2.1 with z | z
      · exact I.ok.noex b o e z
      · exact absurd (Nat.lt_of_lt_of_le (Heap.lt_size (I.ok.bs b o e).1) z) (Nat.lt_irrefl _)
  · intro b hb
    rcases List.mem_cons.mp hb with rfl | hb
    · exact stkNe _ (Nat.ne_of_gt I.lt) (I.nofs (Nat.le_refl _))
    · exact stkNe b (hf b hb).2.1 (hf b hb).2.2.1
  · refine ⟨m, hns, fun i x v h1 h2 h3 => ?_⟩
    have hik : k ≤ i := by
      refine Nat.le_of_not_lt fun hlt => ?_
      rw [List.getElem?_append_left (by simpa using hlt), List.getElem?_replicate] at h2
      split at h2 <;> cases h2
    obtain ⟨j, rfl⟩ := Nat.exists_eq_add_of_le hik
    rw [List.getElem?_append_right (by simp), List.length_replicate, Nat.add_sub_cancel_left] at h2
    have hj : j < cap.length := by
      have := (List.getElem?_eq_some_iff.mp h2).1
      simpa [capS] using this
    obtain ⟨x', i, e1, e2, e3, e4⟩ := S.cap j (List.mem_range.mpr hj)
    rw [show N[k + j]? = some x from h1] at e1
    cases e1
    have h2' : σ[i]? = some (some v) := by
      unfold capS at h2
      rw [List.getElem?_map, e2] at h2
      have h2' : (σ[i]?).join = some v := Option.some.inj h2
      cases q : σ[i]? with
      | none => rw [q] at h2'; cases h2'
      | some z => rw [q] at h2'; exact congrArg some h2'
    have hfm := hfn e4
    have pk := S.free _ hfm rfl
    obtain ⟨m0, _, hl⟩ := I.loc
    obtain ⟨u, r, lk⟩ := hl i x v e3 h2' (pk.elim (fun z => .inr (.inl z)) fun z => .inr (.inr z))
    refine ⟨u, r, ?_⟩
    rcases lk with ⟨kl, _⟩ | ⟨_, c, e, ic⟩
    · rcases pk with z | z
      · have : X.env.scope.names.lookup x = some .local := kl
        rw [z] at this; cases this
      · have : X.env.scope.names.lookup x = some .local := kl
        rw [z] at this; cases this
    · obtain ⟨c', ec⟩ := hcl2 x hfm
      have := hcl1 x c' ec
      rw [e] at this; cases this
      refine .inr ⟨?_, c, ec, ?_⟩
      · exact relabel_free e4
      · obtain ⟨ob, h3, h4⟩ := ic
        exact ⟨ob, hold _ _ h3, h4⟩
  · intro x c e
    obtain ⟨v, ob, h3, h4⟩ := I.cell x c (hcl1 x c e)
    exact ⟨v, ob, hold _ _ h3, h4⟩
  · intro p hp
    rcases List.mem_append.mp hp with hp | hp
    · obtain ⟨e, n, ne, nf, d⟩ := I.pin p hp
      exact ⟨hold _ _ e, n, Nat.ne_of_lt (Nat.lt_succ_of_lt (ltD e)), stkNe _ ne nf, d⟩
    · have : p = (s.heap.objs.size, { cls := .type "list", data := .seq #[] }) := by simpa using hp
      subst this
      refine ⟨hsb _ _ (Heap.get?_push_size _ rfl), nD, Nat.ne_of_lt (Nat.lt_succ_self _), stkNe _ (Nat.ne_of_gt I.lt) (I.nofs (Nat.le_refl _)), fun v z => by cases z⟩
  · show _ = N.length
    rw [S.len]
    simp [capS]
end L2
set_option Elab.async false
set_option linter.all false
set_option maxRecDepth 100000
set_option maxHeartbeats 1000000
namespace L2
open PySem PySem.Spec PyProof.Rows
theorem comp_core {X : Cx} {elt tg iter : Expr} {ifs : List Expr} {scope : Scope} {pos : Pos} {N : List Str} {k : Nat} {cap : List Nat} {wi : TI} {tt : TTg} {tc : TT} {te : TE} {cl : List (Str × Addr)}
    (hc : X.calm = true) (hi : PI X tg iter wi) (hg : ∀ cl C s H ex pn, PTg (compCx X scope N cl C s H ex pn) k tg tt) (ht : ∀ cl C s H ex pn, PTs (compCx X scope N cl C s H ex pn) ifs tc)
    (he : ∀ cl C s H ex pn, PE (compCx X scope N cl C s H ex pn) elt te) (S : CompOk scope X.env.scope N X.N k cap)
    (hcl1 : ∀ x c, cl.lookup x = some c → X.env.cells.lookup x = some c) (hcl2 : ∀ x, (x, NameKind.free) ∈ scope.names → ∃ c, cl.lookup x = some c)
    {pins : List (Addr × Obj)} {s : Shared} {σ : St} {H : Hp} {Q : VK} (I : Inv X pins σ H s) (h : tComp wi tt tc te cap σ H Q) {RR : Value → Addr → Result → Shared → Prop}
    (hRR : ∀ D C s1 H', Inv X pins σ H' s1 → Blk X pins H' s1 C → Q (.ref D) H' → RR (.ref D) C (.ok .next) s1) :
    wpAny (model X.prog X.w) X.A (eval iter X.env) (fun x s₁ => wpAny (model X.prog X.w) X.A (pyIter x) (fun it s₂ => wpAny (model X.prog X.w) X.A (newList []) (fun acc s₃ =>
      wpAny (model X.prog X.w) X.A (newFunctionEnv scope X.env.globals cl [] X.env.qual none .none (some X.env)) (fun cenv s₄ =>
        codeAny (model X.prog X.w) X.A (.compStart (.ListComp elt [⟨tg, iter, ifs, 0⟩] scope pos) 0 it acc { cenv with scope := relabel scope X.env }) (RR acc cenv.locals) s₄) X.xe s₃) X.xe s₂) X.xe s₁) X.xe s := by
  refine thn (hi pins s σ H _ I h) fun v s1 h1 => thn h1 fun itv s2 h2 => ?_
  obtain ⟨it, fp, tn, J, H2, e, I2, T, st2, f2, W, ⟨m0, w0⟩, turn⟩ := h2
  subst e
  refine wpAny_newObj_type (wpAny_newFunctionEnv S.cell (by intro y hy; simp at hy) (fun h₁ hns₁ hsb₁ => ?_) S.kind)
  dsimp only at hns₁ hsb₁ ⊢
  have hP : s2.heap.push { cls := .type "list", dict := none, data := .seq ([] : List Value).toArray } = s2.heap.push { cls := .type "list", data := .seq #[] } := rfl
  rw [hP] at hns₁ hsb₁ ⊢
  have hC : (s2.heap.push { cls := .type "list", data := .seq #[] }).objs.size = s2.heap.objs.size + 1 := Heap.size_push ..
  rw [hC] at hns₁ hsb₁ ⊢
  have hsb : ∀ b o, (s2.heap.push { cls := .type "list", data := .seq #[] }).get? b = some o → h₁.get? b = some o := fun b o e =>
    hsb₁.extBut b o (by have := Heap.lt_size e; rw [hC] at this; exact Nat.ne_of_lt this) (Heap.get?_push_of_some _ e)
  have hob : ∀ b ∈ fp, ∃ o, s2.heap.get? b = some o := fun b hb => by obtain ⟨o, e, _⟩ := T.obj _ _ st2 b hb; exact ⟨o, e⟩
  have IY := comp_start (N := N) (k := k) (cap := cap) (tk := s2.toks + ([] : List (Str × Value)).length) I2 S hcl1 hcl2 f2 hob hns₁ hsb
  generalize hY : compCx X scope N cl (s2.heap.objs.size + 1) { s2 with heap := s2.heap.push { cls := .type "list", data := .seq #[] } } H2 (s2.heap.objs.size :: fp) (X.pn ++ pins) = Y at IY
  have yp : Y.prog = X.prog := by rw [← hY]
  have yw : Y.w = X.w := by rw [← hY]
  have yK : Y.K = X.K := by rw [← hY]
  have yA : Y.A = X.A := by rw [← hY]
  have yc : Y.calm = true := by rw [← hY]; exact hc
  have yl : Y.env.locals = s2.heap.objs.size + 1 := by rw [← hY]; rfl
  have yenv : Y.env = compEnvC scope cl (s2.heap.objs.size + 1) X.env := by rw [← hY]
  have yex : Y.ex = s2.heap.objs.size :: fp := by rw [← hY]
  have yfs : Y.fs = frs X.stack := by rw [← hY]
  have ypn : Y.pn = X.pn ++ pins := by rw [← hY]
  have ycl : Y.env.cells = cl := by rw [← hY]; rfl
  have yxe : Y.xe = fun _ _ => False := by rw [← hY]
  have gT : PTg Y k tg tt := by rw [← hY]; exact hg _ _ _ _ _ _
  have gC : PTs Y ifs tc := by rw [← hY]; exact ht _ _ _ _ _ _
  have gE : PE Y elt te := by rw [← hY]; exact he _ _ _ _ _ _
  have yH : Y.H₀ = H2 := by rw [← hY]
  have ys0 : Y.s₀ = { s2 with heap := s2.heap.push { cls := .type "list", data := .seq #[] } } := by rw [← hY]
  have fpLt : ∀ b ∈ fp, b < s2.heap.objs.size := fun b hb => by obtain ⟨o, e⟩ := hob b hb; exact Heap.lt_size e
  have pinLt : ∀ p ∈ X.pn ++ pins, p.1 < s2.heap.objs.size := fun p hp => Heap.lt_size (I2.pin p hp).1
  have cellLt : ∀ x c, X.env.cells.lookup x = some c → c < s2.heap.objs.size := fun x c e => by
    obtain ⟨v, q⟩ := I2.cell x c e
    exact q.lt
  have stkNe : ∀ b, b ≠ X.env.locals → b ∉ X.fs → b ∉ frs X.stack := fun b h1 h2 hb => (List.mem_cons.mp (I2.stkSub b hb)).elim h1 h2
  have fpY : ∀ {H' : Hp} {pl : List (Addr × Obj)}, (∀ b ∈ fp, H' b = none) → (∀ p ∈ pl, p.1 = s2.heap.objs.size) → ∀ b ∈ fp, FpOk Y pl H' b := fun {H' pl} hn hpl b hb => by
    refine ⟨hn b hb, ?_, ?_, .inl ?_, fun x c e => ?_, fun p hp => ?_⟩
    · rw [yl]; exact Nat.ne_of_lt (Nat.lt_succ_of_lt (fpLt b hb))
    · rw [yfs]; exact stkNe b (f2 b hb).2.1 (f2 b hb).2.2.1
    · rw [yex]; exact List.mem_cons_of_mem _ hb
    · rw [ycl] at e; exact (f2 b hb).2.2.2.2.1 x c (hcl1 x c e)
    · rcases List.mem_append.mp hp with hp | hp
      · rw [ypn] at hp; exact (f2 b hb).2.2.2.2.2 p hp
      · rw [hpl p hp]; exact Nat.ne_of_gt (fpLt b hb)
  have loop : ∀ s₃ : Shared, s₃ = { s2 with heap := h₁, toks := s2.toks + ([] : List (Str × Value)).length } →
      codeAny (model X.prog X.w) X.A (.compLoop (.ListComp elt [⟨tg, iter, ifs, 0⟩] scope pos) 0 (.ref it) (.ref s2.heap.objs.size) (compEnvC scope cl (s2.heap.objs.size + 1) X.env)) (RR (.ref s2.heap.objs.size) (s2.heap.objs.size + 1)) s₃ := by
    rintro s₃ rfl
    refine comp_loop (fun n s' => ∃ i ys its H' c, Inv Y [(s2.heap.objs.size, { cls := .type "list", data := .seq (List.toArray its) c })] (List.replicate k none ++ capS σ cap) H' s' ∧ tn i s'.heap ∧ (∀ b ∈ fp, H' b = none) ∧ Vals ys its ∧ W i n ys H') ?_ m0
      ⟨0, [], [], H2, _, IY, T.keep _ _ _ st2 fun b hb o e => hsb b o (Heap.get?_push_of_some _ e), fun b hb => (f2 b hb).1, .nil, w0⟩
    rintro n s3 ⟨i, ys, its, H3, c3, I3, st3, fr3, rv3, w3⟩
    have onlyD : ∀ p ∈ [(s2.heap.objs.size, ({ cls := .type "list", data := .seq its.toArray c3 } : Obj))], p.1 = s2.heap.objs.size := fun p hp => by
      have : p = (s2.heap.objs.size, { cls := .type "list", data := .seq its.toArray c3 }) := by simpa using hp
      rw [this]
    have pinD : ∀ {pl : List (Addr × Obj)} {σ' : St} {H' : Hp} {s' : Shared}, Inv Y ([(s2.heap.objs.size, ({ cls := .type "list", data := .seq its.toArray c3 } : Obj))] ++ pl) σ' H' s' → s'.heap.get? s2.heap.objs.size = some { cls := .type "list", data := .seq its.toArray c3 } ∧ H' s2.heap.objs.size = none := fun I' => by
      obtain ⟨e, n, _⟩ := I'.pin (s2.heap.objs.size, { cls := .type "list", data := .seq its.toArray c3 }) (List.mem_append_right _ (List.mem_append_left _ (by simp)))
      exact ⟨e, n⟩
    rcases turn i n ys H3 w3 with ⟨stop, hz, qn⟩ | ⟨go, Nx, hNx, step⟩
    · have hd := T.done Y yp yw yK yc i _ s3 _ H3 (fun _ _ => False) I3 (fpY fr3 onlyD) st3 stop
      rw [yA] at hd
      refine thn hd fun r s4 hm0 => ?_
      obtain ⟨hr, I4⟩ := hm0
      subst hr
      obtain ⟨eD, nD⟩ := pinD (pl := []) (by simpa using I4)
      have nC : H3 (s2.heap.objs.size + 1) = none := by have := I4.free; rw [yl] at this; exact this
      obtain ⟨mC, nsC, _⟩ := I4.loc
      rw [yl] at nsC
      have U := I4.base
      rw [yfs, yex, yH, ys0] at U
      have old : ∀ {b o}, s2.heap.get? b = some o → b < s2.heap.objs.size := fun e => Heap.lt_size e
      have Un2 : Un (frs X.stack) (s2.heap.objs.size :: fp) H2 (upd H3 s2.heap.objs.size (.lst ys)) s2.heap s4.heap :=
        ⟨fun b o e n hb hx => U.keep b o (Heap.get?_push_of_some _ e) n hb hx, fun b o e n hb hx => U.slot b o (Heap.get?_push_of_some _ e) n hb hx,
          fun b o e n hx => by rw [upd_ne (Nat.ne_of_lt (old e))]; exact U.free b o (Heap.get?_push_of_some _ e) n hx, fun b o e hx => U.there b o (Heap.get?_push_of_some _ e) hx,
          fun b xs e => by have q := U.tups b xs e; rw [upd_ne (ne_of_none q nD)]; exact q, fun b o u e => by have q := U.frzs b o u e; rw [upd_ne (ne_of_none q nD)]; exact q,
          fun b ps e => by obtain ⟨mo, q⟩ := U.tbls b ps e; exact ⟨mo, by rw [upd_ne (ne_of_none q nD)]; exact q⟩⟩
      have hok4 := I4.hok
      rw [yp, yw] at hok4
      have IX : Inv X pins σ (upd H3 s2.heap.objs.size (.lst ys)) s4 := by
        refine I2.call' (ch := s2.heap.objs.size :: fp) ?_ Un2 (hok4.adopt nD ⟨hz, its, c3, rv3, eD⟩) I4.bare fun b hb => ?_
        · have := I4.os; rw [ys0] at this; exact this
        · rcases List.mem_cons.mp hb with rfl | hb
          · exact ⟨.inr I2.sz, Nat.ne_of_gt I2.lt, fun x c e => Nat.ne_of_lt (cellLt x c e), fun p hp => Nat.ne_of_lt (pinLt p hp)⟩
          · exact ⟨(f2 b hb).2.2.2.1, (f2 b hb).2.1, (f2 b hb).2.2.2.2.1, (f2 b hb).2.2.2.2.2⟩
      refine hRR _ _ s4 _ IX ⟨⟨mC, nsC⟩, ?_, ?_, Nat.le_succ_of_le I2.sz, fun x c e => Nat.ne_of_lt (Nat.lt_succ_of_lt (cellLt x c e)), fun p hp => Nat.ne_of_lt (Nat.lt_succ_of_lt (pinLt p hp))⟩ (qn _ nD)
      · rw [upd_ne (Nat.succ_ne_self _)]; exact nC
      · exact Nat.ne_of_gt (Nat.lt_succ_of_lt I2.lt)
    · have hd := T.item Y yp yw yK yc i _ s3 _ H3 (fun _ _ => False) I3 (fpY fr3 onlyD) st3 go
      rw [yA] at hd
      refine thn hd fun r s4 hm0 => ?_
      obtain ⟨u, hr, h4⟩ := hm0
      subst hr
      refine thn h4 fun _ s5 hm0 => ?_
      obtain ⟨x, H5, I5, r5, y5, st5, fr5⟩ := hm0
      have I5' := I5.pinned (fpY fr5 onlyD) (T.obj _ _ st5)
      have a5 := gT _ s5 _ H5 x u _ I5' (by simp) r5 (step x H5 y5)
      rw [yp, yw, yA, yxe, yenv] at a5
      refine thn a5 fun _ s6 hm0 => ?_
      obtain ⟨ws, hlw, q6, I6⟩ := hm0
      have dr : (List.replicate k (none : Option V) ++ capS σ cap).drop k = capS σ cap := by
        rw [List.drop_append_of_le_length (by simp)]; simp
      rw [dr] at I6
      have a6 := gC _ s6 _ H5 _ I6 q6
      rw [yp, yw, yA, yxe, yenv] at a6
      refine thn a6 fun ok s7 hm0 => ?_
      obtain ⟨H7, I7, q7⟩ := hm0
      have wk : ∀ (j : Nat) v, (List.replicate k (none : Option V) ++ capS σ cap)[j]? = some (some v) → (ws.map some ++ capS σ cap)[j]? = some (some v) := fun j v e => by
        have hik : k ≤ j := by
          refine Nat.le_of_not_lt fun hlt => ?_
          rw [List.getElem?_append_left (by simpa using hlt), List.getElem?_replicate] at e
          split at e <;> cases e
        rw [List.getElem?_append_right (by simpa using hik), List.length_replicate] at e
        rw [List.getElem?_append_right (by simpa [hlw] using hik), List.length_map, hlw]
        exact e
      have wl : (List.replicate k (none : Option V) ++ capS σ cap).length = (ws.map some ++ capS σ cap).length := by simp [hlw]
      have stn : ∀ {H' : Hp} {s' : Shared}, Inv Y ([(s2.heap.objs.size, ({ cls := .type "list", data := .seq its.toArray c3 } : Obj))] ++ pinsAt fp s5.heap) (ws.map some ++ capS σ cap) H' s' → tn (i + 1) s'.heap ∧ ∀ b ∈ fp, H' b = none := fun {H' s'} I' => by
        refine ⟨T.keep _ _ _ st5 fun b hb o e => (I'.pin (b, o) (List.mem_append_right _ (List.mem_append_right _ (mem_pinsAt hb e)))).1, fun b hb => ?_⟩
        obtain ⟨o, e, d⟩ := T.obj _ _ st5 b hb
        exact (I'.pin (b, o) (List.mem_append_right _ (List.mem_append_right _ (mem_pinsAt hb e)))).2.1
      cases ok with
      | false =>
        obtain ⟨_, m', hm, w'⟩ := hNx _ _ q7
        obtain ⟨t7, f7⟩ := stn I7
        exact ⟨m', hm, i + 1, ys, its, H7, c3, (I7.weak wl wk).unpinned, t7, f7, rv3, w'⟩
      | true =>
        have a7 := gE _ s7 _ H7 _ I7 q7
        rw [yp, yw, yA, yxe, yenv] at a7
        rw [if_pos rfl]
        refine thn a7 fun yv s8 hm0 => ?_
        obtain ⟨y, H8, I8, r8, q8⟩ := hm0
        obtain ⟨hz8, m', hm, w'⟩ := hNx _ _ q8
        rw [List.length_append, List.length_singleton] at hz8
        obtain ⟨eD, nD⟩ := pinD I8
        obtain ⟨t8, f8⟩ := stn I8
        refine wpAny_list_append_plain (hsz := by rw [List.size_toArray, ← rv3.length]; omega) ⟨c3, eD⟩ fun h9 pl9 sb9 => ?_
        obtain ⟨c9, e9⟩ := pl9
        have I8' : Inv Y [] (List.replicate k none ++ capS σ cap) H8 s8 := (I8.weak wl wk).pins_of fun p hp => by cases hp
        have I9 : Inv Y [] (List.replicate k none ++ capS σ cap) H8 { s8 with heap := h9 } :=
          I8'.turned (t' := s8.toks) (it := s2.heap.objs.size) (fun b o hb e => sb9.extBut b o hb e) nD (by rw [yl]; exact Nat.ne_of_lt (Nat.lt_succ_self _)) (.inl (by rw [yex]; exact List.mem_cons_self)) (fun x c e => by rw [ycl] at e; exact Nat.ne_of_lt (cellLt x c (hcl1 x c e)))
            fun p hp => by
              rw [List.append_nil, ypn] at hp
              exact Nat.ne_of_lt (pinLt p hp)
        have e9' : h9.get? s2.heap.objs.size = some { cls := .type "list", data := .seq (its ++ [yv]).toArray c9 } := by rw [e9]; simp
        refine ⟨m', hm, i + 1, ys ++ [y], its ++ [yv], H8, c9, I9.pins_of fun p hp => ?_, T.keep _ _ _ t8 fun b hb o e => sb9.extBut b o (Nat.ne_of_lt (fpLt b hb)) e, f8, rv3.append (.cons r8 .nil), w'⟩
        have : p = (s2.heap.objs.size, { cls := .type "list", data := .seq (its ++ [yv]).toArray c9 }) := by simpa using hp
        subst this
        refine ⟨e9', nD, ?_, ?_, fun v z => by cases z⟩
        · rw [yl]; exact Nat.ne_of_lt (Nat.lt_succ_self _)
        · rw [yfs]; exact stkNe _ (Nat.ne_of_gt I2.lt) (I2.nofs (Nat.le_refl _))
  exact codeAny_compStart_list (loop _ rfl) (T.self _ 0 _ _ _ (T.keep _ _ _ st2 fun b hb o e => hsb b o (Heap.get?_push_of_some _ e)) (loop _ rfl))
section
variable {X : Cx} {elt tg iter : Expr} {ifs : List Expr} {scope : Scope} {pos : Pos} {N : List Str} {k : Nat} {cap : List Nat} {wi : TI} {tt : TTg} {tc : TT} {te : TE}
theorem pe_comp (hc : X.calm = true) (S : CompOk scope X.env.scope N X.N k cap) (hi : PI X tg iter wi) (hg : ∀ cl C s H ex pn, PTg (compCx X scope N cl C s H ex pn) k tg tt) (ht : ∀ cl C s H ex pn, PTs (compCx X scope N cl C s H ex pn) ifs tc)
    (he : ∀ cl C s H ex pn, PE (compCx X scope N cl C s H ex pn) elt te) (hs : ∀ x, foldedSetIterable iter X.env x = pure x := by intro _; rfl) :
    PE X (.ListComp elt [⟨tg, iter, ifs, 0⟩] scope pos) (tComp wi tt tc te cap) := by
  intro pins s σ H Q I h
  obtain ⟨cl, hclos, hcl1, hcl2⟩ := clos_of (scope := scope) (env := X.env) fun y hy hf => I.ok.has y.1 (S.free y hy hf)
  rw [eval_ListComp]
  refine wpAny_comprehension_free (use := none) rfl hs hclos S.kind S.loc ?_
  refine comp_core hc hi hg ht he S hcl1 hcl2 I h fun D C s1 H' I1 B q => ?_
  obtain ⟨m, hm⟩ := B.ns
  exact ⟨m, hm, fun h' sb => ⟨.ref D, H', B.turn I1 sb, rfl, q⟩⟩
end
end L2
set_option Elab.async false
set_option linter.all false
set_option maxRecDepth 100000
set_option maxHeartbeats 1000000
namespace L2
open PySem PySem.Spec PyProof.Rows
abbrev Rel (α : Type) := Hp → α → V → Prop
def rBool : Rel Bool := fun _ b v => v = .bl b
def rLst {α : Type} (R : Rel α) : Rel (List α) := fun H xs v => ∃ a vs, v = .ref a ∧ H a = some (.lst vs) ∧ Paired (R H) xs vs
structure MonoR {α : Type} (R : Rel α) : Prop where
  go : ∀ (H H' : Hp) (x : α) (v : V), Same H H' → R H x v → R H' x v
theorem MonoR.up {α : Type} {R : Rel α} (m : MonoR R) {H H' : Hp} {x : α} {v : V} (s : Same H H') (h : R H x v) : R H' x v := m.go H H' x v s h
theorem paired_mono {α : Type} {R : Rel α} (m : MonoR R) {H H' : Hp} (s : Same H H') {xs : List α} {vs : List V} (p : Paired (R H) xs vs) : Paired (R H') xs vs := Paired.mapP p fun _ _ q => m.up s q
theorem paired_map {α β : Type} {F : α → β → Prop} {f : α → β} (h : ∀ a, F a (f a)) : ∀ xs : List α, Paired F xs (xs.map f)
  | [] => .nil
  | a :: r => .cons (h a) (paired_map h r)
theorem Paired.at {α β : Type} {F : α → β → Prop} : ∀ {xs : List α} {ys : List β} {i : Nat} {x : α}, Paired F xs ys → xs[i]? = some x → ∃ y, ys[i]? = some y ∧ F x y
  | _, _, _, _, .nil, e => by simp at e
  | _, _, 0, _, .cons r _, e => by simp at e; subst e; exact ⟨_, rfl, r⟩
  | _, _, i + 1, x, .cons _ t, e => by
    obtain ⟨u, h1, h2⟩ := Paired.at (i := i) (x := x) t (by simpa using e)
    exact ⟨u, by simpa using h1, h2⟩
theorem Paired.ta {α β : Type} {F : α → β → Prop} : ∀ {xs : List α} {ys : List β} {i : Nat} {y : β}, Paired F xs ys → ys[i]? = some y → ∃ x, xs[i]? = some x ∧ F x y
  | _, _, _, _, .nil, e => by simp at e
  | _, _, 0, _, .cons r _, e => by simp at e; subst e; exact ⟨_, rfl, r⟩
  | _, _, i + 1, x, .cons _ t, e => by
    obtain ⟨u, h1, h2⟩ := Paired.ta (i := i) (y := x) t (by simpa using e)
    exact ⟨u, by simpa using h1, h2⟩
theorem Paired.app {α β : Type} {F : α → β → Prop} : ∀ {xs xs' : List α} {ys ys' : List β}, Paired F xs ys → Paired F xs' ys' → Paired F (xs ++ xs') (ys ++ ys')
  | _, _, _, _, .nil, s => s
  | _, _, _, _, .cons r t, s => .cons r (Paired.app t s)
structure EqOk {α : Type} (n : Nat) (R : Rel α) : Prop where
  go : ∀ (X : Cx) (pins : List (Addr × Obj)) (σ : St) (H : Hp) (s : Shared) (A : Around) (x : α) (v w : V) (u1 u2 : Value),
    Inv X pins σ H s → A.units + n < cLine → R H x v → R H x w → RelV v u1 → RelV w u2 → SeqAt.EqAt A s u1 u2 true
theorem EqOk.at {α : Type} {n : Nat} {R : Rel α} (h : EqOk n R) {X : Cx} {pins : List (Addr × Obj)} {σ : St} {H : Hp} {s : Shared} {A : Around} {x : α} {v w : V} {u1 u2 : Value} (I : Inv X pins σ H s) (hu : A.units + n < cLine) (h1 : R H x v) (h2 : R H x w) (r1 : RelV v u1) (r2 : RelV w u2) : SeqAt.EqAt A s u1 u2 true :=
  h.go X pins σ H s A x v w u1 u2 I hu h1 h2 r1 r2
structure RcOk {α : Type} (n : Nat) (R : Rel α) : Prop where
  go : ∀ (X : Cx) (pins : List (Addr × Obj)) (σ : St) (H : Hp) (s : Shared) (A : Around) (x : α) (v w : V) (u1 u2 : Value),
    Inv X pins σ H s → A.units + n < cLine → R H x v → R H x w → RelV v u1 → RelV w u2 → SeqAt.RcAt A s u1 u2 true ∧ SeqAt.RcNeAt A s u1 u2 false
theorem RcOk.at {α : Type} {n : Nat} {R : Rel α} (h : RcOk n R) {X : Cx} {pins : List (Addr × Obj)} {σ : St} {H : Hp} {s : Shared} {A : Around} {x : α} {v w : V} {u1 u2 : Value} (I : Inv X pins σ H s) (hu : A.units + n < cLine) (h1 : R H x v) (h2 : R H x w) (r1 : RelV v u1) (r2 : RelV w u2) : SeqAt.RcAt A s u1 u2 true ∧ SeqAt.RcNeAt A s u1 u2 false :=
  h.go X pins σ H s A x v w u1 u2 I hu h1 h2 r1 r2
theorem eqok_bool : EqOk 0 rBool := by
  refine ⟨fun X pins σ H s A x v w u1 u2 I hu h1 h2 r1 r2 => ?_⟩
  have e1 : v = .bl x := h1
  have e2 : w = .bl x := h2
  subst e1; subst e2
  have := eqAt_V (A := A) (s := s) r1 r2 rfl rfl
  simpa [eqV] using this
theorem all_true (n : Nat) : (List.range n).all (fun _ => true) = true := by simp
theorem vals_two {α : Type} {R : Rel α} {H : Hp} {xs : List α} {vs ws : List V} {us1 us2 : List Value} (p1 : Paired (R H) xs vs) (p2 : Paired (R H) xs ws) (r1 : Vals vs us1) (r2 : Vals ws us2) :
    us1.length = us2.length ∧ ∀ (j : Nat) (a b : Value), us1[j]? = some a → us2[j]? = some b → ∃ x v w, R H x v ∧ R H x w ∧ RelV v a ∧ RelV w b := by
  induction p1 generalizing ws us1 us2 with
  | nil =>
    cases p2
    cases r1; cases r2
    exact ⟨rfl, fun j a b e => by simp at e⟩
  | cons h t ih =>
    cases p2 with
    | cons h' t' =>
      cases r1 with
      | cons q1 s1 =>
        cases r2 with
        | cons q2 s2 =>
          obtain ⟨e, f⟩ := ih t' s1 s2
          refine ⟨by simp [e], fun j a b ea eb => ?_⟩
          cases j with
          | zero => simp at ea eb; subst ea; subst eb; exact ⟨_, _, _, h, h', q1, q2⟩
          | succ j => exact f j a b (by simpa using ea) (by simpa using eb)
theorem rcok_lst {α : Type} {n : Nat} {R : Rel α} (h : EqOk n R) : RcOk (n + 1) (rLst R) := by
  refine ⟨fun X pins σ H s A xs v w u1 u2 I hu h1 h2 r1 r2 => ?_⟩
  obtain ⟨a, vs, e1, ha, p1⟩ := h1
  obtain ⟨b, ws, e2, hb, p2⟩ := h2
  subst e1; subst e2
  cases r1; cases r2
  obtain ⟨its, n1, rv1, o1, z1⟩ := I.lst ha
  obtain ⟨its2, n2, rv2, o2, z2⟩ := I.lst hb
  obtain ⟨el, f⟩ := vals_two p1 p2 rv1 rv2
  have hl1 : s.heap.IsList a its.toArray := ⟨_, o1, rfl, n1, rfl⟩
  have hl2 : s.heap.IsList b its2.toArray := ⟨_, o2, rfl, n2, rfl⟩
  have he : ∀ j (h1 : j < its.toArray.size) (h2 : j < its2.toArray.size), SeqAt.EqAt A.in1 s its.toArray[j] its2.toArray[j] ((fun _ => true) j) := fun j h1 h2 => by
    obtain ⟨x, v, w, q1, q2, q3, q4⟩ := f j (its.toArray[j]) (its2.toArray[j]) (by simp) (by simp)
    exact h.at I (by show A.units + 1 + n < cLine; omega) q1 q2 q3 q4
  have A1 := SeqAt.RcAt.lists hl1 hl2 (by simpa using el) (by omega) he
  have A2 := SeqAt.RcNeAt.lists hl1 hl2 (by simpa using el) (by omega) he
  rw [all_true] at A1 A2
  exact ⟨A1, A2⟩
section
variable {X : Cx}
theorem op_neR {α : Type} {n : Nat} {R : Rel α} (ok : RcOk n R) (hu : X.A.units + n < cLine) : OpR X (compareOp .NotEq) (fun v w H Q => ∃ x, R H x v ∧ R H x w ∧ Q (.bl false) H) := by
  intro pins s σ H v w u1 u2 Q I r1 r2 h
  obtain ⟨x, h1, h2, q⟩ := h
  exact (ok.at I hu h1 h2 r1 r2).2 _ _ _ _ ⟨.bl false, H, I, rfl, q⟩
def kindV (H : Hp) : V → String → Prop
  | .non, T => T = "NoneType"
  | .bl _, T => T = "bool"
  | .int _, T => T = "int"
  | .str _, T => T = "str"
  | .ref a, T => (T = "list" ∧ ((∃ xs, H a = some (.lst xs)) ∨ ∃ o xs, H a = some (.frz o (.lst xs)))) ∨ (T = "tuple" ∧ ∃ xs, H a = some (.tup xs)) ∨ (T = "dict" ∧ ∃ kvs, H a = some (.dK kvs))
  | _, _ => False
theorem kindV.ty {K : PySem.W.Frag} {H : Hp} {x : V} {T : String} (h : kindV H x T) : TyOf K H x (.type T) := by
  cases x with
  | non => cases (show T = "NoneType" from h); exact .non
  | bl b => cases (show T = "bool" from h); exact .bl b
  | int i => cases (show T = "int" from h); exact .int i
  | str z => cases (show T = "str" from h); exact .str z
  | ref a =>
    rcases h with ⟨rfl, ⟨xs, e⟩ | ⟨o, xs, e⟩⟩ | ⟨rfl, xs, e⟩ | ⟨rfl, kvs, e⟩
    · exact .lst e
    · exact .frz e
    · exact .tup e
    · exact .dK e
  | _ => exact False.elim h
theorem call_isi {T : String} : CallR X (.builtin "isinstance") (fun xs H Q => ∃ x S b, xs = [x, .ty T] ∧ kindV H x S ∧ PySem.W.kitOne X.K (.type S) (.type T) = some b ∧ Q (.bl b) H) := by
  intro pins s σ H xs us Q I r h
  obtain ⟨x, S, b, rfl, hk, e, q⟩ := h
  obtain ⟨u, c, rfl, ru, rc⟩ := r.two
  cases (show c = Value.type T from rc)
  exact isinst_ok I ru hk.ty e fun tk => ⟨.bl b, H, I.tok _, rfl, q⟩
theorem isi_same {K : PySem.W.Frag} (T : String) : PySem.W.kitOne K (.type T) (.type T) = some true := by
  unfold PySem.W.kitOne
  rw [if_pos (by simp)]
theorem isi_int_bool {K : PySem.W.Frag} : PySem.W.kitOne K (.type "int") (.type "bool") = some false := rfl
end
end L2
set_option Elab.async false
set_option linter.all false
set_option maxRecDepth 100000
set_option maxHeartbeats 1000000
namespace L2
open PySem PySem.Spec PyProof.Rows
def compOkB (scope psc : Scope) (N PN : List Str) (k : Nat) (cap : List Nat) : Bool :=
  (scope.kind == .function) && (N.length == k + cap.length) &&
  (scope.names.all fun y => (y.2 != .cell) && (y.2 != .local || scope.names.lookup y.1 == some .local) &&
    (y.2 != .free || (scope.names.lookup y.1 == some .free && (psc.names.lookup y.1 == some .cell || psc.names.lookup y.1 == some .free)))) &&
  ((List.range cap.length).all fun j => match N[k + j]?, cap[j]? with
    | some x, some i => PN[i]? == some x && scope.names.lookup x == some .free
    | _, _ => false)
theorem compOk_of {scope psc : Scope} {N PN : List Str} {k : Nat} {cap : List Nat} (h : compOkB scope psc N PN k cap = true) : CompOk scope psc N PN k cap := by
  unfold compOkB at h
  simp only [Bool.and_eq_true] at h
  obtain ⟨⟨⟨h1, h2⟩, h3⟩, h4⟩ := h
  rw [List.all_eq_true] at h3 h4
  have q : ∀ y ∈ scope.names, y.2 ≠ .cell ∧ (y.2 = .local → scope.names.lookup y.1 = some .local) ∧ (y.2 = .free → scope.names.lookup y.1 = some .free ∧ (psc.names.lookup y.1 = some .cell ∨ psc.names.lookup y.1 = some .free)) := fun y hy => by
    have := h3 y hy
    simp only [Bool.and_eq_true, Bool.or_eq_true, bne_iff_ne, beq_iff_eq] at this
    obtain ⟨⟨a, b⟩, c⟩ := this
    exact ⟨a, fun e => b.elim (fun z => absurd e z) id, fun e => c.elim (fun z => absurd e z) id⟩
  refine ⟨by simpa using h1, by simpa using h2, fun y hy => (q y hy).1, fun y hy => (q y hy).2.1, fun y hy e => ((q y hy).2.2 e).2, fun j hj => ?_, fun y hy e => ((q y hy).2.2 e).1⟩
  have := h4 j hj
  split at this
  · rename_i x i e1 e2
    simp only [Bool.and_eq_true, beq_iff_eq] at this
    exact ⟨x, i, e1, e2, this.1, this.2⟩
  · cases this
section
variable {X : Cx} {elt tg iter : Expr} {ifs : List Expr} {scope : Scope} {pos : Pos} {wi : TI} {tt : TTg} {tc : TT} {te : TE}
theorem pe_lc (psc : Scope) (PN N : List Str) (k : Nat) (cap : List Nat) (hi : PI X tg iter wi) (hg : ∀ cl C s H ex pn, PTg (compCx X scope N cl C s H ex pn) k tg tt) (ht : ∀ cl C s H ex pn, PTs (compCx X scope N cl C s H ex pn) ifs tc)
    (he : ∀ cl C s H ex pn, PE (compCx X scope N cl C s H ex pn) elt te) (hc : X.calm = true := by rfl) (h1 : X.env.scope = psc := by rfl) (h2 : X.N = PN := by rfl) (S : compOkB scope psc N PN k cap = true := by decide +kernel)
    (hs : ∀ x, foldedSetIterable iter X.env x = pure x := by intro _; rfl) :
    PE X (.ListComp elt [⟨tg, iter, ifs, 0⟩] scope pos) (tComp wi tt tc te cap) := pe_comp hc (by rw [h1, h2]; exact compOk_of S) hi hg ht he hs
end
structure Dn (P : Program) (w : World) (K : PySem.W.Frag) (mg : Str → Option Value) (base : Heap) (x : Str) (n : Nat) (ps : List Str) (sp : Sp) : Prop where
  ex : ∃ f fd, FnOk P w K mg base CX0 n f fd ps sp ∧ mg x = some (.ref f) ∧ PySem.W.keepIn K (.ref f) = true ∧ Binds K fd ps []
structure DefAt (K : PySem.W.Frag) (mg : Str → Option Value) (x : Str) (st : Stmt) (ps : List Str) : Prop where
  ex : ∃ f fd, Fun K x x st f fd ∧ mg x = some (.ref f) ∧ Binds K fd ps []
section
variable {P : Program} {w : World} {K : PySem.W.Frag} {mg : Str → Option Value} {base : Heap}
theorem DefAt.ok {x : Str} {st : Stmt} {N ps : List Str} {k : Nat} {sp : Sp} (F : DefAt K mg x st ps) (S : FnScope N ps (defScope st)) (len : ∀ vs H Q E, sp vs H Q E → vs.length = ps.length)
    (hbody : ∀ (f : Addr) (cdv : Value) (A : Around) (outer : List Env) (s : Shared) (H : Hp) (vs : List V) (Q : VK) (E : XK), Room k (A.deeper (envOfC x (defScope st) s.heap.objs.size f cdv)) → sp vs H Q E →
      ∃ t, PSs (cxOf CX0 P w K mg base N x (defScope st) f cdv A outer s H E).nox (defBody st) t ∧ t { nx := fun _ H' => Q .non H', rt := Q } (start N vs) H) : Dn P w K mg base x (k + 1) ps sp := by
  obtain ⟨f, fd, F, hm, hb⟩ := F.ex
  exact ⟨f, fd, F.ok S len fun cdv A outer s H vs Q E => hbody f cdv A outer s H vs Q E, hm, F.kp, hb⟩
end
theorem pe_dn {X : Cx} {x : Str} {n k : Nat} {ps : List Str} {sp : Sp} {e : Expr} {es : List Expr} {t : TA} {p pos : Pos} (D : Dn X.prog X.w X.K X.mg X.base x n ps sp) (hr : Room k X.A) (ha : PA X (e :: es) t) (hk : n ≤ k := by decide) (hg : Gl X x := by rfl)
    (hdb : (x == ("__debug__" : Str)) = false := by decide) (he : starEach (e :: es) X.env = (false, eval e X.env) :: starEach es X.env := by rfl) (hpl : (backTo pos (starEach es X.env)).any (·.1) = false := by rfl) :
    PE X (.Call (.Name x p) (e :: es) [] pos) (tCall sp [] E0 t) := by
  obtain ⟨f, fd, F, hm, kp, hb⟩ := D.ex
  exact pe_call F (hr.mono hk) hg hm kp hb .nil pass0 ha hdb he hpl
theorem hu_n {A : Around} {k : Nat} (hr : Room k A) (n : Nat) (h : n ≤ 64 := by decide) : A.units + n < cLine := Nat.lt_of_le_of_lt (Nat.add_le_add_left h _) hr.units
def tSeqM (t u : TS) : TS := fun D σ H => ∃ M : St → Hp → Prop, t { D with nx := M } σ H ∧ ∀ σ' H', M σ' H' → u D σ' H'
theorem pss_cut {X : Cx} {st : Stmt} {rest : List Stmt} {t u : TS} (h1 : PS X st t) (h2 : PSs X rest u) : PSs X (st :: rest) (tSeqM t u) := by
  intro pins s σ H D I h
  obtain ⟨M, h, k⟩ := h
  refine wpAny_execs_cons (thn (h1 pins s σ H { D with nx := M } I h) fun f s1 q => ?_)
  cases f with
  | next =>
    obtain ⟨σ', H', I', q⟩ := q
    exact h2 pins s1 σ' H' D I' (k σ' H' q)
  | ret v => exact q
  | brk => exact q
  | cont => exact q
theorem same_upd {H : Hp} {p : Addr} (h : H p = none) (o : HO) : Same H (upd H p o) := fun b u q => by rw [upd_ne (ne_of_none q h)]; exact q
theorem Same.put {Hs H : Hp} {p : Addr} (s : Same Hs H) (h : Hs p = none) (o : HO) : Same Hs (upd H p o) := fun b u q => by
  rw [upd_ne (ne_of_none q h)]; exact s b u q
theorem small {n m : Nat} (h : n ≤ m) (hm : m ≤ 1000000 := by decide) : n ≤ sizeLine := Nat.le_trans h (Nat.le_trans hm (by decide))
theorem atI_ints {ns : List Int} {k : Int} (h0 : 0 ≤ k) (h1 : k < ns.length) : atI (ns.map V.int) k = some (.int (ns.getD k.toNat 0)) := by
  have hk : k.toNat < ns.length := by omega
  have ek : k = ((k.toNat : Nat) : Int) := by omega
  rw [ek]
  refine (atI_nat (v := V.int (ns.getD k.toNat 0)) ?_)
  simp [hk]
theorem comp_yes {x : V} {H : Hp} {f : List V → St} {A B : List V → Hp → Prop} (h : A [x] H) : ttName x H fun ws => tYes (f ws) H fun b H4 => if b = true then A ws H4 else B ws H4 := by
  show if true = true then A [x] H else B [x] H
  rw [if_pos rfl]; exact h
end L2
set_option Elab.async false
set_option linter.all false
set_option maxRecDepth 100000
set_option maxHeartbeats 1000000
namespace L2
open PySem PySem.Spec PyProof.Rows
section
variable {prog : Program} {w : World} {A : Around} {E : Value → Shared → Prop} {s : Shared} {T : String} {r d : Addr} {n : Nat} {P : Nat → Value → Prop} {OK : Heap → Prop} {Q : Value → Shared → Prop}
end
section
variable {X : Cx}
end
end L2
set_option Elab.async false
set_option linter.all false
set_option maxRecDepth 100000
set_option maxHeartbeats 1000000
namespace L2
open PySem PySem.Spec PyProof.Rows
end L2
set_option Elab.async false
set_option linter.all false
set_option maxRecDepth 100000
set_option maxHeartbeats 2000000
namespace L2
open PySem PySem.Spec PyProof.Rows
section
variable {P : Program} {w : World} {A : Around} {E : Value → Shared → Prop}
end
end L2
set_option Elab.async false
set_option linter.all false
set_option maxRecDepth 100000
set_option maxHeartbeats 4000000
namespace PySem
section
variable {prog : Program} {w : World} {A : Around} {E : Value → Shared → Prop} {s : Shared}
end
end PySem
namespace L2
open PySem PySem.Spec PyProof.Rows
section
variable {P : Program} {w : World} {A : Around} {R : Result → Shared → Prop} {I : Addr} {fp wr : List Addr} {G : Array GenState → Array GenState → Prop} {n : Nat} {Pv : Nat → Value → Prop} {St : Nat → Shared → Prop}
end
end L2
namespace PySem
open L2
section
variable {prog : Program} {w : World} {A : Around} {E : Value → Shared → Prop} {s : Shared}
end
end PySem
set_option Elab.async false
set_option linter.all false
set_option maxRecDepth 100000
set_option maxHeartbeats 4000000
namespace PySem.F
end PySem.F
namespace L2
open PySem PySem.Spec PyProof.Rows
section
variable {P : Program} {w : World} {A : Around} {E : Value → Shared → Prop} {s : Shared}
end
end L2
set_option Elab.async false
set_option linter.all false
set_option maxRecDepth 100000
set_option maxHeartbeats 4000000
namespace L2
open PySem PySem.Spec PyProof.Rows
section
variable {P : Program} {w : World} {A : Around} {E : Value → Shared → Prop} {s : Shared}
end
end L2
set_option Elab.async false
set_option linter.all false
set_option maxRecDepth 100000
set_option maxHeartbeats 4000000
namespace L2
open PySem PySem.Spec PyProof.Rows
section
variable {P : Program} {w : World} {A : Around} {E : Value → Shared → Prop} {s : Shared}
end
end L2
set_option Elab.async false
set_option linter.all false
set_option maxRecDepth 100000
set_option maxHeartbeats 4000000
namespace L2
open PySem PySem.Spec PyProof.Rows
section
variable {P : Program} {w : World} {A : Around} {E : Value → Shared → Prop} {s : Shared}
end
end L2
set_option Elab.async false
set_option linter.all false
set_option maxRecDepth 100000
set_option maxHeartbeats 1000000
namespace L2
open PySem PySem.Spec PyProof.Rows
theorem int_of_at {ns : List Int} {i : Nat} {x : V} (h : (ns.map V.int)[i]? = some x) : ∃ z, ns[i]? = some z ∧ x = .int z := by
  rw [List.getElem?_map] at h
  cases e : ns[i]? with
  | none => rw [e] at h; cases h
  | some z => rw [e] at h; exact ⟨z, rfl, (Option.some.inj h).symm⟩
theorem smlt {n m : Nat} (h : n ≤ m) (hm : m + 1 ≤ 1000000 := by decide) : n < sizeLine := small (n := n + 1) (m := m + 1) (Nat.succ_le_succ h) hm
section
variable {α : Type} {R : Rel α} {H H1 H2 H3 : Hp} {g : Addr} {xs : List α}
end
section
variable {X : Cx} {K : PySem.W.Frag} (hK : X.K = K)
include hK
theorem ixL : IxR X (rIxL K) := by subst hK; exact ix_list
theorem ixT : IxR X (rIxT K) := by subst hK; exact ix_tup
theorem slL : SlR X (rSlL K) := by subst hK; exact sl_list
theorem inS : OpR X (compareOp .In) (rIn K false) := by subst hK; exact op_in_seq
theorem clLen : CallR X (.builtin "len") (fun xs H Q => ∃ p ys, xs = [.ref p] ∧ (SqL K H p ys ∨ SqT K H p ys) ∧ Q (.int ys.length) H) := by subst hK; exact call_len_seq
theorem clIsi {T : String} : CallR X (.builtin "isinstance") (fun xs H Q => ∃ x S b, xs = [x, .ty T] ∧ kindV H x S ∧ PySem.W.kitOne K (.type S) (.type T) = some b ∧ Q (.bl b) H) := by subst hK; exact call_isi
end
theorem comp_listD {K : PySem.W.Frag} {a : Addr} {xs : List V} {tt : TTg} {tc : TT} {te : TE} {cap : List Nat} {σ : St} {H : Hp} {D : Addr → List V → Hp → Prop} (Pv : Nat → List V → Hp → Prop) (h0 : Pv 0 [] H) (hz : xs.length ≤ sizeLine) (hl : ∀ i ys H, i ≤ xs.length → Pv i ys H → SqL K H a xs ∧ ys.length ≤ i)
    (hs : ∀ i x ys H, xs[i]? = some x → Pv i ys H → tt x H fun ws => tc (ws.map some ++ capS σ cap) H fun b H4 => if b = true then te (ws.map some ++ capS σ cap) H4 fun y H5 => Pv (i + 1) (ys ++ [y]) H5 else Pv (i + 1) ys H4)
    (hd : ∀ ys H, Pv xs.length ys H → ∀ p, H p = none → D p ys H) :
    ∃ W : Nat → Nat → List V → Hp → Prop, (∃ m, W 0 m [] H) ∧ ∀ i m ys H2, W i m ys H2 →
    ((Itl K a).stop i H2 ∧ ys.length ≤ sizeLine ∧ ∀ p, H2 p = none → D p ys H2) ∨
    ((Itl K a).go i H2 ∧ ∃ N : List V → Hp → Prop, (∀ ys' H', N ys' H' → ys'.length ≤ sizeLine ∧ ∃ m', m' < m ∧ W (i + 1) m' ys' H') ∧
      ∀ x H3, (Itl K a).yld i H2 x H3 → tt x H3 fun ws => tc (ws.map some ++ capS σ cap) H3 fun b H4 =>
        if b = true then te (ws.map some ++ capS σ cap) H4 fun y H5 => N (ys ++ [y]) H5 else N ys H4) := by
  refine ⟨fun i m ys H => m = xs.length - i ∧ i ≤ xs.length ∧ Pv i ys H, ⟨xs.length, by simp, Nat.zero_le _, h0⟩, ?_⟩
  rintro i m ys H2 ⟨rfl, hi, p⟩
  obtain ⟨q, hy⟩ := hl i ys H2 hi p
  by_cases hlt : i < xs.length
  · refine .inr ⟨⟨xs, xs[i], q, by simp [hlt]⟩, Pv (i + 1), fun ys' H' r => ?_, fun x H3 y => ?_⟩
    · obtain ⟨_, h2⟩ := hl (i + 1) ys' H' hlt r
      exact ⟨by omega, xs.length - (i + 1), by omega, rfl, hlt, r⟩
    · obtain ⟨e, y⟩ := y
      subst e
      exact hs i x ys _ (y xs q) p
  · have e : i = xs.length := by omega
    subst e
    exact .inl ⟨⟨xs, q, Nat.le_refl _⟩, by omega, hd ys H2 p⟩
end L2
set_option Elab.async false
set_option linter.all false
set_option maxRecDepth 100000
set_option maxHeartbeats 1000000
namespace L2
open PySem PySem.Spec PyProof.Rows
theorem Inv.turnedL {X : Cx} {pins : List (Addr × Obj)} {σ : St} {H : Hp} {s : Shared} {h' : Heap} {t' : Nat} {ch : List Addr} (I : Inv X pins σ H s) (hf : ∀ b ∈ ch, FpOk X pins H b) (k : ∀ b o, b ∉ ch → s.heap.get? b = some o → h'.get? b = some o) :
    Inv X pins σ H { s with heap := h', toks := t' } := by
  have nit : ∀ b u, H b = some u → b ∉ ch := fun b u e z => by rw [(hf b z).1] at e; cases e
  refine I.step (g' := s.gens) (d' := s.drawn) (ch := ch) (fun b hb => ?_) (fun b o _ _ hc e _ => k b o hc e) (fun b o _ _ hc e _ => ⟨o.slots, k b o hc e⟩) (fun _ _ _ _ n => n)
    (fun b o hc e => ⟨o, k b o hc e⟩) (fun _ _ e => e) (fun _ _ _ e => e) (fun b ps e => ⟨#[], by rw [e]; simp⟩) (fun m hm => ?_) (fun b u e => ?_) I.bare
  · obtain ⟨_, h1, _, h3, h4, h5⟩ := hf b hb
    exact ⟨h3, h1, h4, h5⟩
  · obtain ⟨o, es, ep, ho, r⟩ := hm
    exact ⟨o, es, ep, k _ o (fun z => (hf _ z).2.1 rfl) ho, r⟩
  · refine (I.hok b u e).stay (fun c v hc q => k c v ?_ q) (fun _ q => q) fun _ _ q => q
    rcases hc with z | z
    · rw [z]; exact nit b u e
    · exact nit c _ z
theorem Inv.adopt {X : Cx} {pins : List (Addr × Obj)} {σ : St} {H : Hp} {s : Shared} {T : Addr} {o : HO} (I : Inv X pins σ H s) (hf : FpOk X pins H T) (new : ObjOk X.prog X.w (upd H T o) s.heap T o) : Inv X pins σ (upd H T o) s := by
  obtain ⟨h0, h1, h2, h3, h4, h5⟩ := hf
  refine I.step (h' := s.heap) (g' := s.gens) (d' := s.drawn) (t' := s.toks) (ch := [T]) (fun b hb => ?_) (fun b u _ _ _ e _ => e) (fun b u _ _ _ e _ => ⟨u.slots, e⟩) (fun b u hc e n => ?_)
    (fun b u _ e => ⟨u, e⟩) (fun b xs e => ?_) (fun b u v e => ?_) (fun b ps e => ⟨#[], ?_⟩) (fun m hm => hm) (I.hok.adopt h0 new) I.bare
  · have e : b = T := by simpa using hb
    subst e
    exact ⟨h3, h1, h4, h5⟩
  · rw [upd_ne (fun z => hc (by simp [z]))]; exact n
  · rw [upd_ne (ne_of_none e h0)]; exact e
  · rw [upd_ne (ne_of_none e h0)]; exact e
  · rw [upd_ne (ne_of_none e h0), e]; simp
end L2
set_option Elab.async false
set_option linter.all false
set_option maxRecDepth 100000
set_option maxHeartbeats 1000000
namespace L2
open PySem
section
variable {H H' : Hp} {r : Addr} {as : List Addr} {Ls : List (List Int)}
end
end L2
set_option Elab.async false
set_option linter.all false
set_option maxRecDepth 100000
set_option maxHeartbeats 1000000
namespace L2
open PySem PySem.Spec PyProof.Rows
section
variable {X : Cx}
theorem pe_gint {x : Str} {n : Int} {pos : Pos} (hm : ∃ t, X.mg x = some (.int n t)) (hg : Gl X x := by rfl) (hd : (x == ("__debug__" : Str)) = false := by decide) : PE X (.Name x pos) (tC (.int n)) := by
  obtain ⟨t, hm⟩ := hm
  exact pe_glob hg hm ⟨t, rfl⟩ hd
end
end L2
set_option Elab.async false
set_option linter.all false
set_option maxRecDepth 100000
set_option maxHeartbeats 1000000
namespace L2
open PySem PySem.Spec PyProof.Rows
section
variable {X : Cx}
end
end L2
set_option Elab.async false
set_option linter.all false
set_option maxRecDepth 100000
set_option maxHeartbeats 1000000
namespace L2
open PySem PySem.Spec PyProof.Rows
theorem zip_apart (n a b : Nat) (la : a < n) (lb : b < n) : ZipApart (n + 4) (n + 2) (n + 3) n (n + 1) a b := by
  constructor
  all_goals (intro h; have h' : (_ : Nat) = _ := h; omega)
section
variable {X : Cx}
end
end L2
set_option Elab.async false
set_option linter.all false
set_option maxRecDepth 100000
set_option maxHeartbeats 4000000
namespace L2
open PySem PySem.Spec PyProof.Rows
section
variable {P : Program} {w : World} {A : Around} {E : Value → Shared → Prop} {s : Shared}
end
end L2
set_option Elab.async false
set_option linter.all false
set_option maxRecDepth 100000
set_option maxHeartbeats 1000000
namespace L2
open PySem PySem.Spec PySem.W PyProof.Rows PySem.Builtin PySem.Builtin.ObjectAttr PySem.Builtin.Getset_descriptor
structure XcK (K : Frag) (C : Addr) : Prop where
  ga : findIn K (.ref C) "__getattribute__" = some (some (.builtin "BaseException.__getattribute__"))
  gn : findIn K (.ref C) "__getattr__" = some none
  cl : findIn K (.ref C) "__class__" = some (some (.builtin "object.__class__"))
  sp : specialIn K (.builtin "object.__class__") "__get__" = some (some (.builtin "getset_descriptor.__get__"))
  tk : takesIn K (.builtin "object.__class__") = some true
  mo : mroIn K C (.type "object") = some true
  me : mroIn K C (.type "BaseException") = some true
  ci : (clsIn K C).isSome = true
def XObj (e C : Addr) (h : Heap) : Prop := ∃ (o : Obj) (vs : Array Value), h.get? e = some o ∧ o.cls = .ref C ∧ o.data = .fields vs
theorem XObj.ty {e C : Addr} {h : Heap} {M : Model} (x : XObj e C h) : Looks M h (typeOf (.ref e)) (.ref C) := by
  obtain ⟨o, vs, h1, h2, _⟩ := x
  rw [← h2]
  exact (Looks.ld h1).andThen .now
theorem XObj.keeps {e C : Addr} {h h' : Heap} (x : XObj e C h) (k : ∀ o, h.get? e = some o → h'.get? e = some o) : XObj e C h' := let ⟨o, vs, h1, h2⟩ := x; ⟨o, vs, k o h1, h2⟩
section
variable {prog : Program} {w : World} {A : Around} {E : Value → Shared → Prop} {s : Shared} {K : Frag} {x C : Addr}
theorem xc_find {M : Model} {h : Heap} (Z : XcK K C) (X : K.In h) : Looks M h (Builtin.ObjectAttr.find (.ref x) (.ref C) "__class__") (.bind (.builtin "getset_descriptor.__get__") (.builtin "object.__class__")) := by
  have L3 := looks_takesIn (M := M) X Z.tk
  have L4 : Looks M h (Builtin.ObjectAttr.dataDescriptor? (some (.builtin "object.__class__")) (some (.builtin "getset_descriptor.__get__"))) (some (.builtin "getset_descriptor.__get__", .builtin "object.__class__")) := L3.andThen .now
  have L2 : Looks M h (Builtin.ObjectAttr.getOf (some (.builtin "object.__class__"))) (some (.builtin "getset_descriptor.__get__")) := looks_specialIn X Z.sp
  exact (looks_findIn X Z.cl).andThen (L2.andThen (L4.andThen (Looks.tag .now)))
theorem xc_get {tp : Value} {R : Result → Shared → Prop} (Z : XcK K C) (X : K.In s.heap) (I : XObj x C s.heap) (h : R (.ok (.ret (.ref C))) s) :
    codeAny (model prog w) A (.call (.builtin "getset_descriptor.__get__") ⟨[.builtin "object.__class__", .ref x, tp], []⟩) R s := by
  obtain ⟨hp, gs, dr, tk, os⟩ := s
  have T0 := I.ty (M := model prog w)
  have T1 := looks_mroIn (M := model prog w) X Z.mo
  refine codeAny_call_builtin KF.slot_gs.plain KF.entry_gs ?_
  refine KF.slot_gs.check _ _ _ _ _ _ _ _ KF.type_class (KF.args_gs _ _ _) ?_
  unfold Builtin.«getset_descriptor.__get__»
  unfold descrGet
  rw [dga_obj]
  apply wpAny_bind
  apply wpAny_pure
  unfold descrGetter descrCheckInstance
  unfold descrNameAndClass isInstance
  simp only [KF.owner_class]
  repeat lk
  constructor
  · exact Code.quiet_builtin _ (by decide +kernel)
  · apply codeAny_builtin KF.entry_class
    unfold Builtin.«object.__class__»
    unfold shownTypeOf
    repeat lk
    exact h
theorem xc_check {nv : Value} {M : Model} {Q : Unit → Shared → Prop} (Z : XcK K C) (X : K.In s.heap) (I : XObj x C s.heap) (h : Q () s) : wpAny M A (checkBuiltinCall "BaseException.__getattribute__" ⟨[.ref x, nv], []⟩) Q E s := by
  obtain ⟨hh, g, d, t, os⟩ := s
  have L0 := I.ty (M := M)
  have L1 := looks_mroIn (M := M) X Z.me
  have k1 : builtinKind "BaseException.__getattribute__" = some .slot := by decide +kernel
  have k2 : splitId "BaseException.__getattribute__" = some ("BaseException", "__getattribute__") := by decide +kernel
  have k3 := F.args_bexc_ga (.ref x) nv
  simp only [checkBuiltinCall, k1, k2]
  refine wpAny_bind ?_
  unfold isInstance
  repeat (first | with_reducible refine L0.at ?_ | with_reducible refine L1.at ?_ | wp_step)
  exact h
theorem xc_call {tk : Tok} {R : Result → Shared → Prop} (Z : XcK K C) (X : K.In s.heap) (I : XObj x C s.heap) (h : R (.ok (.ret (.ref C))) s) :
    codeAny (model prog w) A (.call (.builtin "BaseException.__getattribute__") ⟨[.ref x, .str "__class__" tk], []⟩) R s := by
  refine codeAny_call_builtin F.excAttr_ValueError.ga.plain F.entry_bexc_ga (xc_check Z X I ?_)
  obtain ⟨hh, g, d, t, os⟩ := s
  have L0 := I.ty (M := model prog w)
  have L3 := xc_find (M := model prog w) (x := x) Z X
  unfold Builtin.«object.__getattribute__»
  repeat (any_goals (first | assumption | with_reducible refine L0.at ?_ | with_reducible refine L3.at ?_ | wp_step))
  refine xc_get Z X I ?_
  repeat (any_goals (first | assumption | wp_step))
theorem xc_class {Q : Option Value → Shared → Prop} (Z : XcK K C) (X : K.In s.heap) (I : XObj x C s.heap) (h : Q (some (.ref C)) { s with toks := s.toks + 1 }) : wpAny (model prog w) A (getAttr? (.ref x) "__class__") Q E s := by
  obtain ⟨hh, g, d, t, os⟩ := s
  have L0 := I.ty (M := model prog w)
  have L1 := looks_findIn (M := model prog w) X Z.ga
  have L2 := looks_findIn (M := model prog w) X Z.gn
  have L3 := xc_find (M := model prog w) (x := x) Z X
  unfold getAttr? getAttrBy? getAttrBy
  refine wpAny_bind (wpAny_mkText (wpAny_bind (wpAny_attempt (wpAny_holding (wpAny_bind (L0.at (wpAny_bind (L1.at ?_))))))))
  have f3 := F.excAttr_ValueError.ga.bind (.ref x)
  have e0 : (false && onTheHeap (Value.builtin "BaseException.__getattribute__")) = false := rfl
  have e2 : (Value.builtin "BaseException.__getattribute__" == Value.builtin "object.__getattribute__") = false := by decide +kernel
  have e1 : (onTheHeap (Value.ref C) && Value.builtin "BaseException.__getattribute__" == Value.builtin "object.__getattribute__") = false := by rw [e2]; rfl
  repeat (any_goals (first | assumption | with_reducible refine L0.at ?_ | with_reducible refine L1.at ?_ | with_reducible refine L2.at ?_ | wp_step))
  refine xc_call Z X I ?_
  repeat (any_goals (first | assumption | wp_step))
end
theorem cls_at {K : Frag} {C : Addr} {h : Heap} (X : K.In h) (z : (clsIn K C).isSome = true) : ∃ (o : Obj) (cd : ClassData), h.get? C = some o ∧ o.data = .cls cd := by
  obtain ⟨cd, hc⟩ := Option.isSome_iff_exists.mp z
  unfold clsIn at hc
  split at hc
  · rename_i ho
    exact ⟨_, _, X _ _ ho, rfl⟩
  · cases hc
theorem kitx_exc {K : Frag} {e C : Addr} (Z : XcK K C) : KitX K (.ref e) (.ref C) (XObj e C) where
  ty := fun _ _ _ p => p.ty
  it := fun M h X _ => by
    obtain ⟨o, cd, ho, hd⟩ := cls_at X Z.ci
    intro A' Q' E' s' k q
    unfold isType loadHead
    refine wpAny_bind (wpAny_loadPart (k _ _ ho) ?_)
    rw [hd]
    exact wpAny_pure q
  ne := fun h tp dd its n sl X htp => by
    obtain ⟨o, cd, ho, hd⟩ := cls_at X Z.ci
    refine Bool.eq_false_iff.mpr fun q => ?_
    have e' : C = tp := Value.ref.inj (beq_iff_eq.mp q)
    subst e'
    rw [ho] at htp
    cases htp
    cases hd
  ca := fun X p k => xc_class Z X p k
end L2
set_option Elab.async false
set_option linter.all false
set_option maxRecDepth 100000
set_option maxHeartbeats 1000000
namespace L2
open PySem PySem.Spec PyProof.Rows
theorem ObjOk.got {P : Program} {w : World} {H : Hp} {h : Heap} {a : Addr} {o : HO} (x : ObjOk P w H h a o) : ∃ ob, h.get? a = some ob := by
  cases o with
  | lst xs => obtain ⟨_, _, _, _, e⟩ := x; exact ⟨_, e⟩
  | tup xs => obtain ⟨_, _, _, _, e, _⟩ := x; exact ⟨_, e⟩
  | dK kvs => obtain ⟨_, _, _, _, _, _, _, e, _⟩ := x; exact ⟨_, e⟩
  | dT kvs => obtain ⟨_, _, _, _, _, _, _, e, _⟩ := x; exact ⟨_, e⟩
  | set S n => obtain ⟨_, _, _, _, e, _⟩ := x; exact ⟨_, e⟩
  | ins C dx fs => obtain ⟨_, _, _, e, _⟩ := x; exact ⟨_, e⟩
  | own y => exact x
  | xd fs => obtain ⟨_, ⟨_, _, _, e, _⟩, _⟩ := x; exact ⟨_, e⟩
  | rng lo hi => obtain ⟨_, _, _, e⟩ := x; exact ⟨_, e⟩
  | frz ob u => exact ⟨_, x.1⟩
  | tbl ps => exact ⟨_, x⟩
  | met f y => exact ⟨_, x⟩
  | ext φ => exact x.2.1
theorem HOk.by {P : Program} {w : World} {H : Hp} {h h' B : Heap} (x : HOk P w H h) (hB : ∀ b u, H b = some u → ∃ o, B.get? b = some o) (k1 : ∀ b o, B.get? b = some o → h.get? b = some o) (k2 : ∀ b o, B.get? b = some o → h'.get? b = some o) : HOk P w H h' := fun a o e =>
  (x a o e).stay (fun b u hb q => by
    have ht : ∃ v, H b = some v := by
      rcases hb with rfl | hb
      · exact ⟨_, e⟩
      · exact ⟨_, hb⟩
    obtain ⟨v, hv⟩ := ht
    obtain ⟨ob, ho⟩ := hB b v hv
    have := k1 b ob ho
    rw [q] at this
    cases this
    exact k2 b _ ho) (fun _ q => q) fun _ _ q => q
def CXR (P : Program) (w : World) : CXT := fun outer H s E e s' => ∃ (ea C t : Addr) (H' : Hp) (B : Heap), e = .ref ea ∧ s'.os = s.os ∧ AllBare s'.gens ∧ Un (frs outer) [] H H' s.heap s'.heap ∧ HOk P w H' s'.heap ∧
  Heap.FlyingW B outer ea (.ref C) (.ref t) s'.heap ∧ (∀ b o, s.heap.get? b = some o → b ∉ frs outer → ∃ o', B.get? b = some o') ∧ (∀ b u, H' b = some u → ∃ o, B.get? b = some o) ∧ E (.ref C) none H'
theorem passX0 {P : Program} {w : World} {X : Cx} : Passes (CXR P w) X E0 := fun _ _ _ _ _ _ _ ⟨_, _, _, _, _, _, _, _, _, _, _, _, _, h⟩ => h.elim
section
variable {X : Cx} {pins : List (Addr × Obj)} {σ : St} {H : Hp} {s : Shared}
theorem Inv.notStk (I : Inv X pins σ H s) {b : Addr} {o : Obj} (e : X.s₀.heap.get? b = some o) (h : b ∉ X.fs) : b ∉ frs X.stack := fun z => by
  rcases List.mem_cons.mp (I.stkSub b z) with q | q
  · exact absurd q (Nat.ne_of_lt (Nat.lt_of_lt_of_le (Heap.lt_size e) I.ok.above))
  · exact h q
theorem Inv.stkSup (I : Inv X pins σ H s) {b : Addr} (h : b ∈ X.fs) : b ∈ frs X.stack := by
  rcases I.ok.stk with e | ⟨e, hf⟩
  · rw [e]; exact h
  · rw [e]; unfold frs; rw [List.filterMap_cons, hf]; exact List.mem_cons_of_mem _ h
theorem leaves_made {M : Model} {E2 : Value → Shared → Prop} {h' : Heap} {e C : Addr} {us : List Value} {E : XK} (I : Inv X pins σ H s) (hst : X.stack = X.env :: X.outer) (hf : X.env.frame = some X.env.locals) (hex : X.ex = [])
    (hm : Heap.MadeExcOf s.heap h' e (.ref C) us) (hE : E (.ref C) none H) : wpAny M X.A (leaving X.env (.ref e)) (fun _ s'' => CXR X.prog X.w X.outer X.H₀ X.s₀ E (.ref e) s'') E2 { s with heap := h' } := by
  have hfun := I.stack
  have hin : ∀ env ∈ X.stack, ∀ a, env.frame = some a → a ∈ frs X.stack := fun env he a ha => List.mem_filterMap.mpr ⟨env, he, ha⟩
  have hB1 : ∀ b o, s.heap.get? b = some o → b ∉ frs X.stack → (PySem.W.hideAll s.heap (frs X.stack)).get? b = some o := fun b o q n => PySem.W.hideAll_get _ q n
  have hB0 : ∀ b o, (PySem.W.hideAll s.heap (frs X.stack)).get? b = some o → s.heap.get? b = some o := fun b o q => PySem.W.of_hideAll _ q
  have hfun2 := PySem.W.funFrames_hide hfun hin
  have noex : ∀ b, b ∉ X.ex := fun b z => by rw [hex] at z; cases z
  rw [hst] at hfun2
  have trk : ∀ b u, H b = some u → ∃ o, (PySem.W.hideAll s.heap (frs X.stack)).get? b = some o := fun b u q => by
    obtain ⟨o, ho⟩ := (I.hok b u q).got
    exact ⟨o, hB1 b o ho fun z => by rw [I.stkFree b z] at q; cases q⟩
  have old : ∀ b o, X.s₀.heap.get? b = some o → b ∉ X.fs → ∃ o', (PySem.W.hideAll s.heap (frs X.stack)).get? b = some o' := fun b o q n => by
    obtain ⟨o', ho⟩ := I.base.there b o q (noex b)
    exact ⟨o', hB1 b o' ho (I.notStk q n)⟩
  refine wpAny_leaves_madeW (base := PySem.W.hideAll s.heap (frs X.stack)) (hst ▸ I.ok.frames) hf hB0 (hst ▸ hfun2) hm fun h2 t x1 x2 x3 x4 => ?_
  have fr : ∀ b o, s.heap.get? b = some o → b ∈ X.fs → ∃ sl, h2.get? b = some { o with slots := sl } := fun b o q hb => by
    obtain ⟨_, o', ho', hd⟩ := I.funs.mem hb
    rw [q] at ho'; cases ho'
    exact x4 b o (hm.keeps b o q) hd
  refine ⟨e, C, t, H, _, rfl, I.os, I.bare, ⟨fun b o q n hb _ => ?_, fun b o q n hb _ => ?_, fun b o q n _ => I.base.free b o q n (noex b), fun b o q _ => ?_, I.base.tups, I.base.frzs, I.base.tbls⟩, I.hok.by trk hB0 x1.1, x1, old, trk, hE⟩
  · exact x1.1 b o (hB1 b o (I.base.keep b o q n hb (noex b)) (I.notStk q hb))
  · obtain ⟨sl, e1⟩ := I.base.slot b o q n hb (noex b)
    obtain ⟨sl2, e2⟩ := fr b _ e1 hb
    exact ⟨sl2, e2⟩
  · by_cases hb : b ∈ X.fs
    · obtain ⟨o', e1⟩ := I.base.there b o q (noex b)
      obtain ⟨sl2, e2⟩ := fr b _ e1 hb
      exact ⟨_, e2⟩
    · obtain ⟨o', e1⟩ := old b o q hb
      exact ⟨_, x1.1 b o' e1⟩
theorem leaves_on {M : Model} {E2 : Value → Shared → Prop} {e : Value} {s' : Shared} {E : XK} (I : Inv X pins σ H s) (hst : X.stack = X.env :: X.outer) (hf : X.env.frame = some X.env.locals) (hex : X.ex = [])
    (h : CXR X.prog X.w X.stack H s E e s') : wpAny M X.A (leaving X.env e) (fun _ s'' => CXR X.prog X.w X.outer X.H₀ X.s₀ E e s'') E2 s' := by
  obtain ⟨ea, C, t, H', B, rfl, os, bare, un, hok, fl, b1, b2, hE⟩ := h
  have noex : ∀ b, b ∉ X.ex := fun b z => by rw [hex] at z; cases z
  have fl0 := fl
  rw [hst] at fl0
  refine wpAny_leaves_onW (hst ▸ I.ok.frames) hf fl0 fun h2 x1 x2 => ?_
  have nex : ∀ b : Addr, b ∉ ([] : List Addr) := fun b z => by cases z
  have old : ∀ b o, X.s₀.heap.get? b = some o → b ∉ X.fs → ∃ o', B.get? b = some o' := fun b o q n => by
    obtain ⟨o', ho⟩ := I.base.there b o q (noex b)
    exact b1 b o' ho (I.notStk q n)
  have fr : ∀ b o, s'.heap.get? b = some o → b ∈ X.fs → ∃ sl, h2.get? b = some { o with slots := sl } := fun b o q hb => by
    obtain ⟨_, o', ho', hd⟩ := fl.2.2.1.mem (I.stkSup hb)
    rw [q] at ho'; cases ho'
    exact x2 b o q hd
  refine ⟨ea, C, t, H', B, rfl, os.trans I.os, bare, ⟨fun b o q n hb _ => ?_, fun b o q n hb _ => ?_, fun b o q n _ => ?_, fun b o q _ => ?_, fun b xs q => un.tups b xs (I.base.tups b xs q), fun b o u q => un.frzs b o u (I.base.frzs b o u q), fun b ps q => ?_⟩, hok.by b2 fl.1 x1.1, x1, old, b2, hE⟩
  · have e1 := I.base.keep b o q n hb (noex b)
    have e2 := un.keep b o e1 (I.base.free b o q n (noex b)) (I.notStk q hb) (nex b)
    obtain ⟨o', e3⟩ := old b o q hb
    have e4 := fl.1 b o' e3
    rw [e2] at e4; cases e4
    exact x1.1 b _ e3
  · obtain ⟨sl, e1⟩ := I.base.slot b o q n hb (noex b)
    obtain ⟨sl1, e2⟩ := un.slot b _ e1 (I.base.free b o q n (noex b)) (I.stkSup hb) (nex b)
    obtain ⟨sl2, e3⟩ := fr b _ e2 hb
    exact ⟨sl2, e3⟩
  · obtain ⟨o', e1⟩ := I.base.there b o q (noex b)
    exact un.free b o' e1 (I.base.free b o q n (noex b)) (nex b)
  · by_cases hb : b ∈ X.fs
    · obtain ⟨o', e1⟩ := I.base.there b o q (noex b)
      obtain ⟨o2, e2⟩ := un.there b o' e1 (nex b)
      obtain ⟨sl2, e3⟩ := fr b _ e2 hb
      exact ⟨_, e3⟩
    · obtain ⟨o', e1⟩ := old b o q hb
      exact ⟨_, x1.1 b o' e1⟩
  · obtain ⟨m1, e1⟩ := I.base.tbls b ps q
    obtain ⟨m2, e2⟩ := un.tbls b _ e1
    exact ⟨m1 ++ m2, by rw [e2, Array.append_assoc]⟩
end
end L2
set_option Elab.async false
set_option linter.all false
set_option maxRecDepth 100000
set_option maxHeartbeats 1000000
namespace L2
open PySem PySem.Spec PyProof.Rows
abbrev bmV : List Value := [.type "ValueError", .type "Exception", .type "BaseException", .type "object"]
theorem exc_at {K : PySem.W.Frag} {h : Heap} {C : Addr} {bmB : List Value} {newId : String} (X : K.In h) (q : PySem.W.excIn K C bmB newId = true) :
    ∃ bm N nm qn bs hdct sn sub ab col dd k0 k1 k2 k3 k5 mN, h.get? C = some (excClassObj nm qn C N bs bm hdct sn sub ab col dd k0 k1 k2 k3 k5 newId) ∧ h.Ns N mN ∧ mN "__init__" = none ∧ OwnTail h bmB bm := by
  unfold PySem.W.excIn at q
  split at q
  case h_2 => cases q
  case h_1 dd cd sl ho =>
    split at q
    case h_2 => cases q
    case h_1 C' bm k0 k1 k2 k3 n k5 hm hs =>
      simp only [Bool.and_eq_true, beq_iff_eq, Bool.not_eq_true'] at q
      obtain ⟨⟨⟨⟨⟨z1, z2⟩, z3⟩, z4⟩, z5⟩, z6⟩ := q
      cases z1
      cases z2
      obtain ⟨nm, bs, mro, ns, qn, hd, sn, sub, ab, col, del⟩ := cd
      cases hm
      cases z3
      have es : sl = #[k0, k1, k2, k3, some (.builtin newId), k5] := by
        cases sl with
        | mk l => simp only at hs; rw [hs]
      cases es
      exact ⟨bm, ns, nm, qn, bs, hd, sn, sub, ab, col, dd, k0, k1, k2, k3, k5, _, X _ _ ho, Heap.Ns.of_isNs (PySem.W.isNs_of_in X z5), PySem.W.nsMap_none_of_in X z5 z6, PySem.W.tail_of_in X z4⟩
def Raises (X : Cx) (E : XK) : Prop := ∀ (pins : List (Addr × Obj)) (σ : St) (H : Hp) (s : Shared) (h' : Heap) (e C : Addr) (us : List Value), Inv X pins σ H s → Heap.MadeExcOf s.heap h' e (.ref C) us → E (.ref C) none H → X.xe (.ref e) { s with heap := h' }
def tRaise (t : TA) (C : Addr) (E : XK) : TS := fun _ σ H => t σ H fun vs H1 => vs.length ≤ sizeLine ∧ E (.ref C) none H1
section
variable {X : Cx}
theorem ps_raise {E : XK} {x : Str} {C : Addr} {e0 : Expr} {rest : List Expr} {t : TA} {np cpos pos : Pos} (hr : Raises X E) (hm : X.mg x = some (.ref C)) (q : PySem.W.excIn X.K C bmV "ValueError.__new__" = true) (ha : PA X (e0 :: rest) t) (hc : X.calm = true := by rfl) (hg : Gl X x := by rfl)
    (hdb : (x == ("__debug__" : Str)) = false := by decide) (he : starEach (e0 :: rest) X.env = (false, eval e0 X.env) :: starEach rest X.env := by rfl) (hpl : (backTo cpos (starEach rest X.env)).any (·.1) = false := by rfl) :
    PS X (.Raise (some (.Call (.Name x np) (e0 :: rest) [] cpos)) none pos) (tRaise t C E) := by
  intro pins s σ H D I h
  obtain ⟨tl, N, nm, qn, bs, hdct, sn, sub, ab, col, dd, k0, k1, k2, k3, k5, mN, hC, hN, hni, T⟩ := exc_at I.mod.kin q
  refine wpAny_Raise_call_subT (C := C) (nm := nm) (q := qn) (N := N) (bs := bs) (bm := tl) (hdct := hdct) (sn := sn) (sub := sub) (ab := ab) (col := col) (dd := dd) (k0 := k0) (k1 := k1) (k2 := k2) (k3 := k3) (k5 := k5)
    PySem.F.excBase_ValueError (mN := mN) (T.hasType PySem.F.excBase_ValueError.hasBase) (I.ok.hd hc) ?_ hni (ld_glob I hg hm ⟨rfl, ?_⟩ hdb)
  · rw [he]
    show (false || (backTo cpos (starEach rest X.env)).any (·.1)) = false
    rw [hpl]; rfl
  have h2 := ha cpos pins s σ H _ I h
  rw [he] at h2 ⊢
  refine Calls.evalArgs_plain (thn h2 fun us s2 hm0 => ?_)
  obtain ⟨vs, H1, I1, r1, q1, q2⟩ := hm0
  exact ⟨rfl, by rw [← r1.length]; exact q1, I1.bk _ _ hC, hN.keeps I1.bk, T.keeps I1.bk, fun h' e hm => hr pins σ H1 s2 h' e C us I1 hm q2⟩
end
section
variable {P : Program} {w : World} {K : PySem.W.Frag} {mg : Str → Option Value} {base : Heap}
abbrev cxR (P : Program) (w : World) (K : PySem.W.Frag) (mg : Str → Option Value) (base : Heap) (N : List Str) (qual : Str) (scope : Scope) (f : Addr) (cd : Value) (A : Around) (outer : List Env) (s : Shared) (H : Hp) (E : XK) : Cx := cxOf (CXR P w) P w K mg base N qual scope f cd A outer s H E
theorem raisesR {N : List Str} {qual : Str} {scope : Scope} {f : Addr} {cd : Value} {A : Around} {outer : List Env} {s : Shared} {H : Hp} {E : XK} : Raises (cxR P w K mg base N qual scope f cd A outer s H E) E :=
  fun pins σ H1 s1 h' e C us I hm hE => leaves_made (X := cxR P w K mg base N qual scope f cd A outer s H E) I rfl rfl rfl hm hE
theorem passR {N : List Str} {qual : Str} {scope : Scope} {f : Addr} {cd : Value} {A : Around} {outer : List Env} {s : Shared} {H : Hp} {E : XK} : Passes (CXR P w) (cxR P w K mg base N qual scope f cd A outer s H E) E :=
  fun pins σ H1 s1 e s' I h => leaves_on (X := cxR P w K mg base N qual scope f cd A outer s H E) I rfl rfl rfl h
structure DnX (P : Program) (w : World) (K : PySem.W.Frag) (mg : Str → Option Value) (base : Heap) (x : Str) (n : Nat) (ps : List Str) (sp : Sp) : Prop where
  ex : ∃ f fd, FnOk P w K mg base (CXR P w) n f fd ps sp ∧ mg x = some (.ref f) ∧ PySem.W.keepIn K (.ref f) = true ∧ Binds K fd ps []
theorem DefAt.okX {x : Str} {st : Stmt} {N ps : List Str} {k : Nat} {sp : Sp} (F : DefAt K mg x st ps) (S : FnScope N ps (defScope st)) (len : ∀ vs H Q E, sp vs H Q E → vs.length = ps.length)
    (hbody : ∀ (f : Addr) (cdv : Value) (A : Around) (outer : List Env) (s : Shared) (H : Hp) (vs : List V) (Q : VK) (E : XK), Room k (A.deeper (envOfC x (defScope st) s.heap.objs.size f cdv)) → sp vs H Q E →
      ∃ t, PSs (cxR P w K mg base N x (defScope st) f cdv A outer s H E) (defBody st) t ∧ t { nx := fun _ H' => Q .non H', rt := Q } (start N vs) H) : DnX P w K mg base x (k + 1) ps sp := by
  obtain ⟨f, fd, F, hm, hb⟩ := F.ex
  have kp := F.kp
  obtain ⟨oc, od, kV, doc, pm, an, cdv, ct, osl, rfl, lk, hcd⟩ := F.ex
  exact ⟨f, _, fn_of lk hcd S len fun A outer s H vs Q E hr hsp => hbody f cdv A outer s H vs Q E hr hsp, hm, kp, hb⟩
end
theorem pe_dnX {X : Cx} {E : XK} {x : Str} {n k : Nat} {ps : List Str} {sp : Sp} {e : Expr} {es : List Expr} {t : TA} {p pos : Pos} (hx : Passes (CXR X.prog X.w) X E) (D : DnX X.prog X.w X.K X.mg X.base x n ps sp) (hr : Room k X.A) (ha : PA X (e :: es) t) (hk : n ≤ k := by decide) (hg : Gl X x := by rfl)
    (hdb : (x == ("__debug__" : Str)) = false := by decide) (he : starEach (e :: es) X.env = (false, eval e X.env) :: starEach es X.env := by rfl) (hpl : (backTo pos (starEach es X.env)).any (·.1) = false := by rfl) :
    PE X (.Call (.Name x p) (e :: es) [] pos) (tCall sp [] E t) := by
  obtain ⟨f, fd, F, hm, kp, hb⟩ := D.ex
  exact pe_call F (hr.mono hk) hg hm kp hb .nil hx ha hdb he hpl
end L2
set_option Elab.async false
set_option linter.all false
set_option maxRecDepth 100000
set_option maxHeartbeats 1000000
namespace L2
open PySem PySem.Spec PyProof.Rows
def xcO (e C : Addr) : HO := .ext fun h => XObj e C h
theorem fly_obj {B h : Heap} {l : List Env} {e C : Addr} {a0 : Value} (f : Heap.FlyingW B l e (.ref C) a0 h) : XObj e C h := by
  obtain ⟨_, _, _, oe, ws, _, _, _, he, hc, hd, _⟩ := f
  exact ⟨oe, ws, he, hc.1, hd⟩
abbrev Cx.suite (X : Cx) (e : Addr) : Cx := { X with A := X.A.mark (some (.ref e)), calm := false, xe := fun _ _ => False }
section
variable {X : Cx} {pins : List (Addr × Obj)} {σ : St} {H : Hp} {s : Shared}
theorem Inv.suite (I : Inv X pins σ H s) (e : Addr) : Inv (X.suite e) pins σ H s :=
  ⟨⟨I.ok.mod, I.ok.kind, I.ok.glob, I.ok.blt, I.ok.above, I.ok.inj, I.ok.has, I.ok.cab, (fun z => by cases z), I.ok.frames, I.ok.stk, I.ok.exf, I.ok.bs, I.ok.bsz, I.ok.noex, I.ok.exfs, I.ok.funs, I.ok.frf⟩, I.os, I.bare, I.base, I.loc, I.cell, I.free, I.freeC, I.pin, I.hok, I.len⟩
theorem Inv.unsuite {e : Addr} (hh : X.A.handled = none) (I : Inv (X.suite e) pins σ H s) : Inv X pins σ H s :=
  ⟨⟨I.ok.mod, I.ok.kind, I.ok.glob, I.ok.blt, I.ok.above, I.ok.inj, I.ok.has, I.ok.cab, (fun _ => hh), I.ok.frames, I.ok.stk, I.ok.exf, I.ok.bs, I.ok.bsz, I.ok.noex, I.ok.exfs, I.ok.funs, I.ok.frf⟩, I.os, I.bare, I.base, I.loc, I.cell, I.free, I.freeC, I.pin, I.hok, I.len⟩
theorem Inv.forget {i : Nat} {n : Str} {h' : Heap} {v : Option Value} {m : Str → Option Value} {t' : Nat} (I : Inv X pins σ H s) (hN : X.N.Nodup) (hi : X.N[i]? = some n) (hn : s.heap.Ns X.env.locals m) (hn' : h'.Ns X.env.locals (fun x => if x = n then v else m x)) (hs : Heap.SameBut X.env.locals s.heap h') :
    Inv X pins (σ.set i none) H { s with heap := h', toks := t' } := by
  obtain ⟨oL, _, _, hoL, _⟩ := id hn
  have neL : ∀ b o, X.s₀.heap.get? b = some o → b ≠ X.env.locals := fun b o e => Nat.ne_of_lt (Nat.lt_of_lt_of_le (Heap.lt_size e) I.ok.above)
  have gen : ∀ b o, b ≠ X.env.locals → s.heap.get? b = some o → h'.get? b = some o := fun b o hb e => (hs.2 b hb).trans e
  refine ⟨I.ok, I.os, I.bare, ⟨fun b o e n0 hb hx => ?_, fun b o e n0 hb hx => ?_, I.base.free, fun b o e hx => ?_, I.base.tups, I.base.frzs, I.base.tbls⟩, ⟨_, hn', fun j y v' e1 e2 e3 => ?_⟩, fun y c e => ?_, I.free, I.freeC, fun p hp => ?_, fun b ob e => ?_, by simpa using I.len⟩
  · exact gen _ _ (neL b o e) (I.base.keep b o e n0 hb hx)
  · obtain ⟨sl, e1⟩ := I.base.slot b o e n0 hb hx
    exact ⟨sl, gen _ _ (neL b o e) e1⟩
  · obtain ⟨o', e1⟩ := I.base.there b o e hx
    exact ⟨o', gen _ _ (neL b o e) e1⟩
  · by_cases hj : j = i
    · subst hj
      rw [List.getElem?_set] at e2
      simp only [if_true] at e2
      split at e2 <;> cases e2
    · rw [List.getElem?_set_ne (Ne.symm hj)] at e2
      obtain ⟨m0, hm0, hl⟩ := I.loc
      obtain ⟨u', r', q⟩ := hl j y v' e1 e2 e3
      have hyn : y ≠ n := fun e => hj (nodup_ix hN e1 (e ▸ hi))
      refine ⟨u', r', ?_⟩
      rcases q with ⟨k, e⟩ | ⟨k, c, e, z⟩
      · refine .inl ⟨k, ?_⟩
        have : m0 y = m y := by
          obtain ⟨o1, es1, ep1, p1, p2, _, p3⟩ := hm0
          obtain ⟨o2, es2, ep2, q1, q2, _, q3⟩ := id hn
          rw [p1] at q1; cases q1
          rw [p2] at q2; cases q2
          rw [← p3 y, ← q3 y]
        simp [hyn, ← this, e]
      · exact .inr ⟨k, c, e, z.sameBut hs (I.cne y c e)⟩
  · obtain ⟨w', z⟩ := I.cell y c e
    exact ⟨w', z.sameBut hs (I.cne y c e)⟩
  · obtain ⟨e, n0, ne, nf, d⟩ := I.pin p hp
    exact ⟨gen _ _ ne e, n0, ne, nf, d⟩
  · refine (I.hok b ob e).stay (fun c w' hc q => gen c w' ?_ q) (fun _ q => q) fun _ _ q => q
    rintro rfl
    rcases hc with rfl | hc
    · rw [I.free] at e; cases e
    · rw [I.free] at hc; cases hc
theorem fly_inv {s' : Shared} {h5 B : Heap} {ea C t : Addr} {a5 : Value} {H' : Hp} (I : Inv X pins σ H s) (os : s'.os = s.os) (bare : AllBare s'.gens) (un : Un (frs X.stack) [] H H' s.heap s'.heap) (hok : HOk X.prog X.w H' s'.heap)
    (fl : Heap.FlyingW B X.stack ea (.ref C) (.ref t) s'.heap) (b1 : ∀ b o, s.heap.get? b = some o → b ∉ frs X.stack → ∃ o', B.get? b = some o') (b2 : ∀ b u, H' b = some u → ∃ o, B.get? b = some o)
    (fl5 : Heap.FlyingW B X.stack ea (.ref C) a5 h5) (u5 : s'.heap.UpToSlots h5) : H' ea = none ∧ Inv X pins σ (upd H' ea (xcO ea C)) { s' with heap := h5 } := by
  have nex : ∀ b : Addr, b ∉ ([] : List Addr) := fun b z => by cases z
  have hea : H' ea = none := by
    cases q : H' ea with
    | none => rfl
    | some u => obtain ⟨o, ho⟩ := b2 ea u q; rw [fl.2.1] at ho; cases ho
  have fr : ∀ b o, s'.heap.get? b = some o → b ∈ frs X.stack → ∃ sl, h5.get? b = some { o with slots := sl } := fun b o q hb => by
    obtain ⟨_, o', ho', hd⟩ := fl.2.2.1.mem hb
    rw [q] at ho'; cases ho'
    exact u5 b o q hd
  have nea : ∀ b o, s.heap.get? b = some o → b ≠ ea := fun b o q z => by
    subst z
    by_cases hb : b ∈ frs X.stack
    · obtain ⟨_, o', ho', hd⟩ := fl.2.2.1.mem hb
      obtain ⟨oe, ws, he, _, hdat⟩ := fly_obj fl
      rw [he] at ho'; cases ho'
      exact hd _ hdat
    · obtain ⟨o', ho⟩ := b1 b o q hb
      rw [fl.2.1] at ho; cases ho
  refine ⟨hea, I.call' (s' := { s' with heap := h5 }) (ch := []) os ⟨fun b o q n hb _ => ?_, fun b o q n hb _ => ?_, fun b o q n _ => ?_, fun b o q _ => ?_, fun b xs q => ?_, fun b o u q => ?_, fun b ps q => ?_⟩ ?_ bare fun b z => absurd z (nex b)⟩
  · have e2 := un.keep b o q n hb (nex b)
    obtain ⟨o', e3⟩ := b1 b o q hb
    have e4 := fl.1 b o' e3
    rw [e2] at e4; cases e4
    exact fl5.1 b _ e3
  · obtain ⟨sl1, e2⟩ := un.slot b _ q n hb (nex b)
    obtain ⟨sl2, e3⟩ := fr b _ e2 hb
    exact ⟨sl2, e3⟩
  · rw [upd_ne (nea b o q)]; exact un.free b o q n (nex b)
  · by_cases hb : b ∈ frs X.stack
    · obtain ⟨o2, e2⟩ := un.there b o q (nex b)
      obtain ⟨sl2, e3⟩ := fr b _ e2 hb
      exact ⟨_, e3⟩
    · obtain ⟨o', e1⟩ := b1 b o q hb
      exact ⟨_, fl5.1 b o' e1⟩
  · have := un.tups b xs q
    rw [upd_ne (ne_of_none this hea)]; exact this
  · have := un.frzs b o u q
    rw [upd_ne (ne_of_none this hea)]; exact this
  · obtain ⟨m2, e2⟩ := un.tbls b _ q
    exact ⟨m2, by rw [upd_ne (ne_of_none e2 hea)]; exact e2⟩
  · have ok5 := hok.by b2 fl.1 fl5.1
    intro b u e
    by_cases hb : b = ea
    · subst hb
      rw [upd_same] at e; cases e
      have x := fly_obj fl5
      obtain ⟨oe, ws, he, r⟩ := id x
      exact ⟨x, ⟨oe, he⟩, fun h1 h2 p k => p.keeps k⟩
    · rw [upd_ne hb] at e
      exact (ok5 b u e).stay (fun _ _ _ q => q) (fun c q => by rw [upd_ne (ne_of_none q hea)]; exact q) fun c xs q => by rw [upd_ne (ne_of_none q hea)]; exact q
theorem caught {s' : Shared} {e : Value} {E : XK} {D : Ends} {i : Nat} {n g : Str} {G : Addr} {b0 : Stmt} {suite : List Stmt} {hpos np : Pos} {th : TS} (I : Inv X pins σ H s) (hst : X.stack = X.env :: X.outer) (hf : X.env.frame = some X.env.locals) (hc : X.calm = true)
    (hN : X.N.Nodup) (hi : X.N[i]? = some n) (hl : X.env.scope.names.lookup n = some .local) (hg : Gl X g) (hm : X.mg g = some (.ref G)) (hs : ∀ ea, PSs (X.suite ea) (b0 :: suite) th) (hdb : (g == ("__debug__" : Str)) = false)
    (hx : CXR X.prog X.w X.stack H s E e s')
    (hE : ∀ C H', E (.ref C) none H' → PySem.W.exmOne X.K (.ref C) (.ref G) = some true ∧ ∀ ea, H' ea = none → th { D with nx := fun σ' H2 => D.nx (σ'.set i none) H2, bk := fun σ' H2 => D.bk (σ'.set i none) H2, ct := fun σ' H2 => D.ct (σ'.set i none) H2 } (σ.set i (some (.ref ea))) (upd H' ea (xcO ea C))) :
    wpAny (model X.prog X.w) X.A (noteFrame e X.env) (fun _ s2 => wpAny (model X.prog X.w) X.A (setFlight e none) (fun _ s3 => wpAny (model X.prog X.w) X.A (handleBy e X.env [.ExceptHandler (some (.Name g np)) (some n) (b0 :: suite) hpos]) (SP X pins D) X.xe s3) X.xe s2) X.xe s' := by
  obtain ⟨ea, C, t, H', B, rfl, os, bare, un, hok, fl, b1, b2, hw⟩ := hx
  obtain ⟨hm1, hth⟩ := hE C H' hw
  have fl0 := fl
  rw [hst] at fl0
  have hh := I.ok.hd hc
  have hk := I.ok.kind
  refine wpAny_looks_onW (hst ▸ I.ok.frames) hf fl0 fun h4 held u4 => ?_
  refine wpAny_landsW held fun h5 fl5 u5 => ?_
  rw [← hst] at fl5
  obtain ⟨hea, I5⟩ := fly_inv I os bare un hok fl b1 b2 fl5 (u4.trans u5)
  refine wpAny_handleBy_cons (codeAny_handlers_test (ld_glob (X := X.suite ea) (I5.suite ea) hg hm ?_ hdb)) (by intro q; cases q)
  refine (PySem.W.exm_one I5.kIn (fly_obj fl5).ty hm1).here ?_
  refine codeAny_handlers_suite_as ?_
  refine lands_againW fl5 fun h6 fl6 u6 => ?_
  obtain ⟨_, I6⟩ := fly_inv I os bare un hok fl b1 b2 fl6 ((u4.trans u5).trans u6)
  refine store_ok (X := X) I6 hN hi (.inl hl) (v := .ref ea) (u := .ref ea) rfl (fun s7 I7 => ?_) (.inr hl)
  refine wpAny_mono (hs ea pins s7 _ _ _ (I7.suite ea) (hth ea hea)) (fun f s8 q8 => ?_) fun _ _ z => False.elim z
  have key : ∀ {σ' : St} {H2 : Hp} {R : Prop}, Inv (X.suite ea) pins σ' H2 s8 → (∀ s9, Inv X pins (σ'.set i none) H2 s9 → SP X pins D f s9) →
      wpAny (model X.prog X.w) X.A (do bindName X.env n .none; unbindBehindTheSuite X.env n hpos) (fun _ s9 => SP X pins D f s9) X.xe s8 := fun {σ' H2 R} J k => by
    have J' := J.unsuite hh
    obtain ⟨m, hn, _⟩ := J'.loc
    refine wpAny_nameGoes_keeps hl hn (by rw [hk]; rfl) fun h' v hn' hsb => k _ (J'.forget hN hi hn hn' hsb)
  cases f with
  | next => obtain ⟨σ', H2, J, q⟩ := q8; exact key (R := True) J fun s9 I9 => ⟨_, H2, I9, q⟩
  | brk => obtain ⟨σ', H2, J, q⟩ := q8; exact key (R := True) J fun s9 I9 => ⟨_, H2, I9, q⟩
  | cont => obtain ⟨σ', H2, J, q⟩ := q8; exact key (R := True) J fun s9 I9 => ⟨_, H2, I9, q⟩
  | ret u => obtain ⟨v, σ', H2, J, r, q⟩ := q8; exact key (R := True) J fun s9 I9 => ⟨v, _, H2, I9, r, q⟩
end
end L2
set_option Elab.async false
set_option linter.all false
set_option maxRecDepth 100000
set_option maxHeartbeats 1000000
namespace L2
open PySem PySem.Spec PyProof.Rows
section
variable {X : Cx} {CX : CXT} {k : Nat} {f : Addr} {fd : FuncData} {ps : List Str} {sp : Sp} {E : XK} {x : Str} {p pos : Pos} {e : Expr} {es : List Expr} {t : TA} {pins : List (Addr × Obj)} {σ : St} {H : Hp} {s : Shared} {Q : VK} {EE : Value → Shared → Prop}
theorem run_fnT {us : List Value} {vs : List V} (F : FnOk X.prog X.w X.K X.mg X.base CX k f fd ps sp) (hr : Room k X.A) (hb : Binds X.K fd ps []) (I : Inv X pins σ H s) (hx : ∀ e s', CX X.stack H s E e s' → EE e s') (r : Vals vs us) (h : sp vs H Q E) :
    wpAny (model X.prog X.w) X.A (call (.ref f) us) (EP X pins σ Q) EE s := by
  have hl : us.length = ps.length := by rw [← r.length]; exact F.len _ _ _ _ h
  have hb2 := hb s us I.kIn (by simpa using hl)
  rw [List.append_nil] at hb2
  refine wpAny_call (codeAny_mono (F.run X.A X.stack s H ⟨us, []⟩ us vs Q E hr I.env0 hb2 r h) fun r s' hq => ?_)
  cases r with
  | error e => exact hx e s' hq
  | ok fl =>
    cases fl with
    | ret u => exact I.after hq
    | next => cases hq
    | brk => cases hq
    | cont => cases hq
theorem call_T (F : FnOk X.prog X.w X.K X.mg X.base CX k f fd ps sp) (hr : Room k X.A) (hg : Gl X x) (hm : X.mg x = some (.ref f)) (hk : PySem.W.keepIn X.K (.ref f) = true) (hb : Binds X.K fd ps []) (ha : PA X.nox (e :: es) t) (hdb : (x == ("__debug__" : Str)) = false)
    (he : starEach (e :: es) X.env = (false, eval e X.env) :: starEach es X.env) (hpl : (backTo pos (starEach es X.env)).any (·.1) = false) (I : Inv X pins σ H s) (h : t σ H fun vs H1 => sp vs H1 Q E) (hx : ∀ H1 s1 e s', Inv X pins σ H1 s1 → CX X.stack H1 s1 E e s' → EE e s') :
    wpAny (model X.prog X.w) X.A (eval (.Call (.Name x p) (e :: es) [] pos) X.env) (EP X pins σ Q) EE s := by
  refine wpAny_Call_Name_kw (ld_glob I hg hm ?_ hdb)
  refine PySem.W.callWith_K (h₀ := X.base) I.ok.mod.kin hk (wpAny_mono (ha pos pins s σ H _ (I.wish _) h) (fun us s1 hm0 => ?_) fun _ _ z => False.elim z) he hpl
  obtain ⟨vs, H1, I1, r, q⟩ := hm0
  have J : Inv X pins σ H1 s1 := I1.unwish
  exact ⟨J.kIn, run_fnT F hr hb J (fun e s' z => hx H1 s1 e s' J z) r q⟩
end
def exTry (K : PySem.W.Frag) (G : Addr) (th : TS) (i : Nat) (D : Ends) (σ : St) : XK := fun c _ H' => ∃ C, c = .ref C ∧ PySem.W.exmOne K (.ref C) (.ref G) = some true ∧ ∀ ea, H' ea = none →
  th { D with nx := fun σ' H2 => D.nx (σ'.set i none) H2, bk := fun σ' H2 => D.bk (σ'.set i none) H2, ct := fun σ' H2 => D.ct (σ'.set i none) H2 } (σ.set i (some (.ref ea))) (upd H' ea (xcO ea C))
def tTryE (K : PySem.W.Frag) (G : Addr) (sp : Sp) (t : TA) (th : TS) (i : Nat) : TS := fun D σ H => t σ H fun vs H1 => sp vs H1 (fun _ H2 => D.nx σ H2) (exTry K G th i D σ)
section
variable {X : Cx} {x y g n : Str} {i j m k : Nat} {ps : List Str} {sp : Sp} {p py pos epos np hpos tpos : Pos} {e : Expr} {es : List Expr} {t : TA} {th : TS} {G : Addr} {b0 : Stmt} {suite : List Stmt}
theorem ps_tryE (D : DnX X.prog X.w X.K X.mg X.base x m ps sp) (hr : Room k X.A) (ha : PA X.nox (e :: es) t) (hmg : X.mg g = some (.ref G)) (hs : ∀ ea, PSs (X.suite ea) (b0 :: suite) th) (hN : X.N.Nodup) (hi : X.N[i]? = some n) (hl : X.env.scope.names.lookup n = some .local)
    (hk : m ≤ k := by decide) (hc : X.calm = true := by rfl) (hst : X.stack = X.env :: X.outer := by rfl) (hf : X.env.frame = some X.env.locals := by rfl) (hg : Gl X x := by rfl) (hgg : Gl X g := by rfl)
    (hdb : (x == ("__debug__" : Str)) = false := by decide) (hdg : (g == ("__debug__" : Str)) = false := by decide) (he : starEach (e :: es) X.env = (false, eval e X.env) :: starEach es X.env := by rfl) (hpl : (backTo pos (starEach es X.env)).any (·.1) = false := by rfl)
    (hsw : swapsWith (.Call (.Name x p) (e :: es) [] pos) none epos.line X.env = pure false := by rfl) :
    PS X (.Try [.Expr (.Call (.Name x p) (e :: es) [] pos) epos] [.ExceptHandler (some (.Name g np)) (some n) (b0 :: suite) hpos] [] [] tpos) (tTryE X.K G sp t th i) := by
  intro pins s σ H D0 I h
  obtain ⟨f, fd, F, hm, kp, hb⟩ := D.ex
  refine wpAny_Try_except (wpAny_execs_cons ?_)
  refine wpAny_Expr_any (thn (call_T F (hr.mono hk) hg hm kp hb ha hdb he hpl I h (fun H1 s1 e s' J z => ?_)) fun v s1 ⟨u, H1, I1, r1, q1⟩ => ?_) I.quiet hsw
  · exact caught (D := D0) J hst hf hc hN hi hl hgg hmg hs hdg z fun C H' ⟨C', e1, q1, q2⟩ => by cases e1; exact ⟨q1, q2⟩
  · exact wpAny_execs_nil (wpAny_execs_nil ⟨σ, H1, I1, q1⟩)
end
end L2
set_option Elab.async false
set_option linter.all false
set_option maxRecDepth 100000
set_option maxHeartbeats 1000000
namespace L2
open PySem PySem.Spec PyProof.Rows
def clK (K : PySem.W.Frag) (x : Str) : Addr := match PySem.W.nsIn K mainGlobals x with
  | some (some (.ref C)) => C
  | _ => 0
def xcB (K : PySem.W.Frag) (C : Addr) : Bool :=
  PySem.W.findIn K (.ref C) "__getattribute__" == some (some (.builtin "BaseException.__getattribute__")) && PySem.W.findIn K (.ref C) "__getattr__" == some none &&
  PySem.W.findIn K (.ref C) "__class__" == some (some (.builtin "object.__class__")) && PySem.W.specialIn K (.builtin "object.__class__") "__get__" == some (some (.builtin "getset_descriptor.__get__")) &&
  PySem.W.takesIn K (.builtin "object.__class__") == some true && PySem.W.mroIn K C (.type "object") == some true && PySem.W.mroIn K C (.type "BaseException") == some true && (PySem.W.clsIn K C).isSome
def xcFacts (K : PySem.W.Frag) (top : Str) (rs ns : List Str) : Bool :=
  (PySem.W.nsIn K mainGlobals top == some (some (.ref (clK K top)))) &&
  (ns.all fun y => PySem.W.nsIn K mainGlobals y == some (some (.ref (clK K y)))) &&
  rs.all fun x => (PySem.W.nsIn K mainGlobals x == some (some (.ref (clK K x)))) && xcB K (clK K x) && PySem.W.excIn K (clK K x) bmV "ValueError.__new__" &&
    (PySem.W.exmOne K (.ref (clK K x)) (.ref (clK K top)) == some true) && (PySem.W.kitOne K (.ref (clK K x)) (.type "ValueError") == some true) &&
    ns.all fun y => PySem.W.kitOne K (.ref (clK K x)) (.ref (clK K y)) == some (decide (x = y))
structure XT (K : PySem.W.Frag) (mg : Str → Option Value) (top : Str) (rs ns : List Str) : Prop where
  m : ∀ x, (x = top ∨ x ∈ rs ∨ x ∈ ns) → mg x = some (.ref (clK K x))
  exc : ∀ x ∈ rs, PySem.W.excIn K (clK K x) bmV "ValueError.__new__" = true
  k : ∀ x ∈ rs, XcK K (clK K x)
  hit : ∀ x ∈ rs, PySem.W.exmOne K (.ref (clK K x)) (.ref (clK K top)) = some true
  val : ∀ x ∈ rs, PySem.W.kitOne K (.ref (clK K x)) (.type "ValueError") = some true
  one : ∀ x ∈ rs, ∀ y ∈ ns, PySem.W.kitOne K (.ref (clK K x)) (.ref (clK K y)) = some (decide (x = y))
theorem xt_of {K : PySem.W.Frag} {h : Heap} {mg : Str → Option Value} {top : Str} {rs ns : List Str} (X : K.In h) (G : h.Ns mainGlobals mg) (e : xcFacts K top rs ns = true) : XT K mg top rs ns := by
  unfold xcFacts at e
  simp only [Bool.and_eq_true, List.all_eq_true, beq_iff_eq] at e
  obtain ⟨⟨e1, e2⟩, e3⟩ := e
  refine ⟨fun x hx => ?_, fun x hx => (e3 x hx).1.1.1.2, fun x hx => ?_, fun x hx => (e3 x hx).1.1.2, fun x hx => (e3 x hx).1.2, fun x hx y hy => (e3 x hx).2 y hy⟩
  · rcases hx with rfl | hx | hx
    · exact PySem.W.mg_of X G e1
    · exact PySem.W.mg_of X G (e3 x hx).1.1.1.1.1
    · exact PySem.W.mg_of X G (e2 x hx)
  · have z := (e3 x hx).1.1.1.1.2
    unfold xcB at z
    simp only [Bool.and_eq_true, beq_iff_eq] at z
    obtain ⟨⟨⟨⟨⟨⟨⟨z1, z2⟩, z3⟩, z4⟩, z5⟩, z6⟩, z7⟩, z8⟩ := z
    exact ⟨z1, z2, z3, z4, z5, z6, z7, z8⟩
theorem kitAny_no {K : PySem.W.Frag} {t : Value} : ∀ {cs : List Value}, (∀ c ∈ cs, PySem.W.kitOne K t c = some false) → PySem.W.kitAny K t cs = some false
  | [], _ => rfl
  | c :: r, h => by
    unfold PySem.W.kitAny
    rw [h c (List.mem_cons_self ..)]
    exact kitAny_no fun d hd => h d (List.mem_cons_of_mem _ hd)
theorem boot_VE : bootBuiltins "ValueError" = some (.type "ValueError") := by decide +kernel
section
variable {X : Cx}
theorem call_isiE : CallR X (.builtin "isinstance") (fun xs H Q => ∃ e C D b, xs = [.ref e, .ref D] ∧ H e = some (xcO e C) ∧ XcK X.K C ∧ PySem.W.kitOne X.K (.ref C) (.ref D) = some b ∧ Q (.bl b) H) := by
  intro pins s σ H xs us Q I r h
  obtain ⟨e, C, D, b, rfl, he, hk, hb, q⟩ := h
  obtain ⟨u, c, rfl, ru, rc⟩ := r.two
  cases (show u = Value.ref e from ru)
  cases (show c = Value.ref D from rc)
  exact PySem.W.kia_one (kitx_exc hk) I.kIn (I.hok e _ he).1 hb (by intro z; cases z) fun tk => ⟨.bl b, H, I.tok _, rfl, q⟩
theorem call_isiV {T : String} : CallR X (.builtin "isinstance") (fun xs H Q => ∃ e C b, xs = [.ref e, .ty T] ∧ H e = some (xcO e C) ∧ XcK X.K C ∧ PySem.W.kitOne X.K (.ref C) (.type T) = some b ∧ Q (.bl b) H) := by
  intro pins s σ H xs us Q I r h
  obtain ⟨e, C, b, rfl, he, hk, hb, q⟩ := h
  obtain ⟨u, c, rfl, ru, rc⟩ := r.two
  cases (show u = Value.ref e from ru)
  cases (show c = Value.type T from rc)
  exact PySem.W.kia_one (kitx_exc hk) I.kIn (I.hok e _ he).1 hb (by intro z; cases z) fun tk => ⟨.bl b, H, I.tok _, rfl, q⟩
theorem vals_refs : ∀ {cs : List Addr} {us : List Value}, Vals (cs.map V.ref) us → us = cs.map Value.ref
  | [], _, .nil => rfl
  | c :: r, _, .cons h t => by
    cases (show _ = Value.ref c from h)
    rw [vals_refs t]; rfl
theorem call_isiT : CallR X (.builtin "isinstance") (fun xs H Q => ∃ e C tp, ∃ cs : List Addr, xs = [.ref e, .ref tp] ∧ H e = some (xcO e C) ∧ XcK X.K C ∧ H tp = some (.tup (cs.map V.ref)) ∧ (∀ c ∈ cs, PySem.W.kitOne X.K (.ref C) (.ref c) = some false) ∧ Q (.bl false) H) := by
  intro pins s σ H xs us Q I r h
  obtain ⟨e, C, tp, cs, rfl, he, hk, htp, hb, q⟩ := h
  obtain ⟨u, c, rfl, ru, rc⟩ := r.two
  cases (show u = Value.ref e from ru)
  cases (show c = Value.ref tp from rc)
  obtain ⟨_, its, rv, o, ho, hcl, n, hd⟩ := I.hok tp _ htp
  rw [vals_refs rv] at hd
  obtain ⟨oc, od, odt, osl⟩ := o
  cases hcl
  cases hd
  exact PySem.W.kia_tup (kitx_exc hk) I.kIn (I.hok e _ he).1 ho (kitAny_no fun c hc => by obtain ⟨a, ha, rfl⟩ := List.mem_map.mp hc; exact hb a ha) (by intro z; cases z) fun tk => ⟨.bl false, H, I.tok _, rfl, q⟩
end
end L2
set_option Elab.async false
set_option linter.all false
set_option maxRecDepth 100000
set_option maxHeartbeats 1000000
namespace L2
open PySem PySem.Spec PyProof.Rows
section
variable {X : Cx}
end
end L2
set_option Elab.async false
set_option linter.all false
set_option maxRecDepth 100000
set_option maxHeartbeats 1000000
namespace L2
open PySem PySem.Spec PyProof.Rows
end L2
set_option Elab.async false
set_option linter.all false
set_option maxRecDepth 100000
set_option maxHeartbeats 1000000
namespace L2
open PySem PySem.Spec PyProof.Rows
section
variable {X : Cx}
def PJ (X : Cx) (es : List Expr) (n : Nat) : Prop := ∀ (out : Str) (pins : List (Addr × Obj)) (s : Shared) (σ : St) (H : Hp) (Q : VK), Inv X pins σ H s → out.length + n ≤ sizeLine → (∀ x, Q (.str x) H) →
  wpAny (model X.prog X.w) X.A (joinParts out (evalEach es X.env)) (EP X pins σ Q) X.xe s
theorem pj_nil : PJ X [] 0 := fun out pins s σ H Q I hz q => joinParts_nil ⟨.str out, H, I.tok _, ⟨_, rfl⟩, q _⟩ (by omega)
theorem pj_str {x : Str} {j pos} {rest : List Expr} {n : Nat} (h : PJ X rest n) : PJ X (.Constant (.str x) j pos :: rest) (x.length + n) := fun out pins s σ H Q I hz q => by
  have e : (out ++ x).length = out.length + x.length := strLen_append ..
  refine joinParts_cons (Calls.Constant_str ⟨by omega, h _ pins _ σ H Q (I.tok _) (by omega) q⟩)
theorem pj_int {g : Str} {v : Int} {p p2 : Pos} {rest : List Expr} {n : Nat} (hm : ∃ t, X.mg g = some (.int v t)) (h : PJ X rest n) (hg : Gl X g := by rfl) (hd : (g == ("__debug__" : Str)) = false := by decide) (hv : v.natAbs.log2 < 1920 := by decide +kernel) :
    PJ X (.FormattedValue (.Name g p) (-1) none p2 :: rest) ((toString v : Str).length + n) := fun out pins s σ H Q I hz q => by
  obtain ⟨t, hm⟩ := hm
  have e : (out ++ (toString v : Str)).length = out.length + (toString v : Str).length := strLen_append ..
  refine joinParts_cons (FormattedValue_plain (ld_glob I hg hm (formatField_int_small hv ⟨by omega, h _ pins _ σ H Q (I.tok _) (by omega) q⟩) hd))
def tSomeStr : TE := fun _ H Q => ∀ x, Q (.str x) H
theorem pe_join {v1 v2 : Expr} {rest : List Expr} {pos : Pos} {n : Nat} (h : PJ X (v1 :: v2 :: rest) n) (hn : n ≤ sizeLine := by decide +kernel) : PE X (.JoinedStr (v1 :: v2 :: rest) pos) tSomeStr := fun pins s σ H Q I q =>
  JoinedStr_many (h Str.empty pins s σ H Q I (by rw [show Str.empty.length = 0 from rfl]; omega) q)
end
end L2
set_option Elab.async false
set_option linter.all false
set_option maxRecDepth 100000
set_option maxHeartbeats 1000000
namespace L2
open PySem PySem.Spec PyProof.Rows
section
variable {X : Cx}
end
end L2
set_option Elab.async false
set_option linter.all false
set_option maxRecDepth 100000
set_option maxHeartbeats 1000000
namespace L2
open PySem PySem.Spec PyProof.Rows
section
variable {X : Cx} {pins : List (Addr × Obj)} {σ : St} {H : Hp} {s : Shared}
end
end L2
set_option Elab.async false
set_option linter.all false
set_option maxRecDepth 100000
set_option maxHeartbeats 1000000
namespace L2
open PySem PySem.Spec PyProof.Rows
end L2
set_option Elab.async false
set_option linter.all false
namespace L2
open PySem PyProof.Rows
section
variable {prog : Program} {w : World} {A : Around} {E : Value → Shared → Prop} {s : Shared}
end
end L2
set_option Elab.async false
set_option linter.all false
namespace L2
open PySem PyProof.Rows
section
variable {prog : Program} {w : World} {A : Around} {E : Value → Shared → Prop} {s : Shared}
end
end L2
set_option Elab.async false
set_option linter.all false
namespace L2
open PySem PyProof.Rows
section
variable {prog : Program} {w : World} {A : Around} {E : Value → Shared → Prop} {s : Shared}
end
end L2
set_option Elab.async false
set_option linter.all false
namespace L2
open PySem PyProof.Rows
section
variable {a₀ : Array Keyed} {pd : Array (Nat × Nat × Nat)} {st : SortSt}
variable {prog : Program} {w : World} {A : Around} {E : Value → Shared → Prop} {s : Shared}
end
end L2
set_option Elab.async false
set_option linter.all false
namespace L2
open PySem PyProof.Rows
section
variable {prog : Program} {w : World} {A : Around} {E : Value → Shared → Prop} {s : Shared} {a₀ : Array Keyed} {pd : Array (Nat × Nat × Nat)} {st : SortSt}
end
end L2
set_option Elab.async false
set_option linter.all false
namespace L2
open PySem PyProof.Rows
section
variable {prog : Program} {w : World} {A : Around} {E : Value → Shared → Prop} {s : Shared} {a₀ : Array Keyed} {st : SortSt}
end
end L2
set_option Elab.async false
set_option linter.all false
set_option maxRecDepth 100000
set_option maxHeartbeats 1000000
namespace L2
open PySem PySem.Spec PyProof.Rows
section
variable {prog : Program} {w : World} {A : Around} {E : Value → Shared → Prop} {s : Shared}
end
section
variable {X : Cx}
end
end L2
set_option Elab.async false
set_option linter.all false
set_option maxRecDepth 100000
set_option maxHeartbeats 1000000
namespace L2
open PySem PySem.Spec PyProof.Rows
section
variable {P : Program} {w : World} {K : PySem.W.Frag} {mg : Str → Option Value} {base : Heap}
end
end L2
set_option Elab.async false
set_option linter.all false
set_option maxRecDepth 100000
set_option maxHeartbeats 1000000
namespace L2
open PySem PySem.Spec PyProof.Rows
theorem cut_from1 (xs : List V) : cutV xs (some 1) none = xs.drop 1 := by
  unfold cutV
  show List.take _ (List.drop (HT.sIx xs.length 0 (some ((1 : Nat) : Int))) xs) = _
  rw [HT.sIx_nat, HT.sIx_none]
  cases xs with
  | nil => rfl
  | cons x xs =>
    have : min 1 (x :: xs).length = 1 := by simp
    show List.take ((x :: xs).length - min 1 (x :: xs).length) (List.drop (min 1 (x :: xs).length) (x :: xs)) = _
    rw [this]
    refine List.take_of_length_le ?_
    simp
end L2
set_option Elab.async false
set_option linter.all false
set_option maxRecDepth 100000
set_option maxHeartbeats 1000000
namespace L2
open PySem PySem.Spec PyProof.Rows
section
variable {X : Cx}
end
end L2
set_option Elab.async false
set_option linter.all false
set_option maxRecDepth 100000
set_option maxHeartbeats 1000000
namespace L2
open PySem PySem.Spec PyProof.Rows
structure ClsAt (K : PySem.W.Frag) (mg : Str → Option Value) (x : Str) (C : Addr) (fs : List Str) : Prop where
  cl : Cls K C
  mgC : mg x = some (.ref C)
  na : ∀ f ∈ fs, NoAttr K C f
structure MkAt (K : PySem.W.Frag) (C : Addr) (qual : Str) (st : Stmt) (ps : List Str) : Prop where
  ex : ∃ f fd, Fun K "__init__" qual st f fd ∧ Mk K C f ∧ Binds K fd ps []
structure DnK (P : Program) (w : World) (K : PySem.W.Frag) (mg : Str → Option Value) (base : Heap) (C : Addr) (n : Nat) (ps : List Str) (sp : Sp) : Prop where
  ex : ∃ f fd, FnOk P w K mg base CX0 n f fd ps sp ∧ Mk K C f ∧ Binds K fd ps []
section
variable {P : Program} {w : World} {K : PySem.W.Frag} {mg : Str → Option Value} {base : Heap}
theorem MkAt.ok {C : Addr} {qual : Str} {st : Stmt} {N ps : List Str} {k : Nat} {sp : Sp} (F : MkAt K C qual st ps) (S : FnScope N ps (defScope st)) (len : ∀ vs H Q E, sp vs H Q E → vs.length = ps.length)
    (hbody : ∀ (f : Addr) (cdv : Value) (A : Around) (outer : List Env) (s : Shared) (H : Hp) (vs : List V) (Q : VK) (E : XK), Room k (A.deeper (envOfC qual (defScope st) s.heap.objs.size f cdv)) → sp vs H Q E →
      ∃ t, PSs (cxOf CX0 P w K mg base N qual (defScope st) f cdv A outer s H E).nox (defBody st) t ∧ t { nx := fun _ H' => Q .non H', rt := Q } (start N vs) H) : DnK P w K mg base C (k + 1) ps sp := by
  obtain ⟨f, fd, F, hm, hb⟩ := F.ex
  exact ⟨f, fd, F.ok S len fun cdv A outer s H vs Q E => hbody f cdv A outer s H vs Q E, hm, hb⟩
end
section
variable {X : Cx}
theorem pe_dnK {C : Addr} {x : Str} {fs : List Str} {n k : Nat} {ps : List Str} {sp : Sp} {e : Expr} {es : List Expr} {t : TA} {p pos : Pos} (CL : ClsAt X.K X.mg x C fs) (D : DnK X.prog X.w X.K X.mg X.base C n ps sp) (hr : Room k X.A) (ha : PA X (e :: es) t) (hk : n + 1 ≤ k := by decide) (hg : Gl X x := by rfl)
    (hdb : (x == ("__debug__" : Str)) = false := by decide) (he : starEach (e :: es) X.env = (false, eval e X.env) :: starEach es X.env := by rfl) (hpl : (backTo pos (starEach es X.env)).any (·.1) = false := by rfl) :
    PE X (.Call (.Name x p) (e :: es) [] pos) (tMake C sp [] E0 t) := by
  obtain ⟨f, fd, F, hm, hb⟩ := D.ex
  exact pe_make hm F (hr.mono hk) hg CL.mgC hb .nil pass0 ha hdb he hpl
theorem ps_fldK {K : PySem.W.Frag} {o value : Expr} {f : Str} {pos pos' : Pos} {ta tv : TE} (hK : X.K = K) (ha : PE X o ta) (hv : PE X value tv) (hs : swapsWith value (some (.Attribute o f pos')) pos.line X.env = pure false) : PS X (.Assign [.Attribute o f pos'] value pos) (sFld K ta tv f) := by
  subst hK; exact ps_fld ha hv hs
end
end L2
set_option Elab.async false
set_option linter.all false
set_option maxRecDepth 100000
set_option maxHeartbeats 1000000
namespace L2
open PySem PySem.Spec PyProof.Rows
section
variable {H H' : Hp} {a b c : Addr}
end
end L2
set_option Elab.async false
set_option linter.all false
namespace L2
open PySem PySem.Spec PyProof.Rows
section
variable {K : PySem.W.Frag} {i j : Nat} {σ : St} {H : Hp} {Q : VK} {a b C dx : Addr} {xs ys : List V} {z c : Int} {v u : V} {f : Str} {fs : List (Str × V)}
end
end L2
set_option linter.all false
namespace L2
end L2
set_option Elab.async false
set_option linter.all false
set_option maxRecDepth 100000
set_option maxHeartbeats 1000000
namespace L2
open PySem PySem.W PySem.Spec PyProof.Rows
section
variable {k : Nat → Int} {n : Nat} {cmp : Nat → Nat → (Bool → Shared → Prop) → Shared → Prop} {s : Shared}
end
end L2
set_option Elab.async false
set_option linter.all false
set_option maxRecDepth 100000
set_option maxHeartbeats 1000000
namespace L2
open PySem PySem.Spec PyProof.Rows
section
variable {prog : Program} {w : World} {A : Around} {E : Value → Shared → Prop} {s : Shared}
end
section
variable {X : Cx}
end
end L2
set_option Elab.async false
set_option linter.all false
set_option maxRecDepth 100000
set_option maxHeartbeats 1000000
namespace L2
open PySem PySem.Spec PyProof.Rows
section
variable {X : Cx} {elt tg iter : Expr} {ifs : List Expr} {scope : Scope} {pos : Pos} {wi : TI} {tt : TTg} {tc : TT} {te : TE}
end
end L2
set_option linter.all false
namespace L2
open PySem
section
variable {P : List Value → Prop}
theorem argS {n : Nat} (h : ∀ a (us : List Value), us.length = n → P (a :: us)) (us : List Value) (e : us.length = n + 1) : P us := by
  cases us with
  | nil => exact absurd e (Nat.succ_ne_zero n).symm
  | cons a us => exact h a us (Nat.succ.inj e)
theorem arg0 (h : P []) (us : List Value) (e : us.length = 0) : P us := by
  rw [List.length_eq_zero_iff.mp e]; exact h
theorem arg1 (h : ∀ a, P [a]) : ∀ us : List Value, us.length = 1 → P us := argS fun a => arg0 (h a)
theorem arg2 (h : ∀ a b, P [a, b]) : ∀ us : List Value, us.length = 2 → P us := argS fun a => arg1 (P := fun us => P (a :: us)) (h a)
theorem arg3 (h : ∀ a b c, P [a, b, c]) : ∀ us : List Value, us.length = 3 → P us := argS fun a => arg2 (P := fun us => P (a :: us)) (h a)
theorem arg4 (h : ∀ a b c d, P [a, b, c, d]) : ∀ us : List Value, us.length = 4 → P us := argS fun a => arg3 (P := fun us => P (a :: us)) (h a)
end
end L2
set_option Elab.async false
set_option linter.all false
set_option maxRecDepth 100000
set_option maxHeartbeats 1000000
namespace L2
open PySem PySem.Spec PyProof.Rows
theorem vals_bls : ∀ {bs : List Bool} {us : List Value}, Vals (bs.map V.bl) us → us = bs.map Value.bool
  | [], _, .nil => rfl
  | b :: r, _, .cons h q => by cases h; rw [vals_bls q]; rfl
section
variable {X : Cx}
end
section
variable {X : Cx}
end
end L2
set_option Elab.async false
set_option linter.all false
set_option maxRecDepth 100000
set_option maxHeartbeats 1000000
namespace L2
open PySem PySem.Spec PyProof.Rows
abbrev K0 : PySem.W.Frag := []
theorem SqL.k0 {K : PySem.W.Frag} {H : Hp} {a : Addr} {xs : List V} (h : SqL K0 H a xs) : SqL K H a xs := by
  rcases h with h | ⟨o, _, _, hk, _⟩
  · exact .inl h
  · cases hk
section
variable {X : Cx}
theorem Itl.le (a : Addr) {K : PySem.W.Frag} : (∀ i H, (Itl K0 a).go i H → (Itl K a).go i H) ∧ (∀ i H x H', (Itl K a).yld i H x H' → (Itl K0 a).yld i H x H') ∧ ∀ i H, (Itl K0 a).stop i H → (Itl K a).stop i H :=
  ⟨fun i H ⟨xs, x, h1, h2⟩ => ⟨xs, x, h1.k0, h2⟩, fun i H x H' ⟨e, h⟩ => ⟨e, fun xs hx => h xs hx.k0⟩, fun i H ⟨xs, h1, h2⟩ => ⟨xs, h1.k0, h2⟩⟩
theorem Turn.le {P : Program} {w : World} {K : PySem.W.Frag} {tg : Expr} {J J' : It} {fp : List Addr} {it : Addr} {tn : Nat → Heap → Prop} (t : Turn P w K tg J fp it tn) (h : (∀ i H, J'.go i H → J.go i H) ∧ (∀ i H x H', J.yld i H x H' → J'.yld i H x H') ∧ ∀ i H, J'.stop i H → J.stop i H) : Turn P w K tg J' fp it tn where
  mem := t.mem
  obj := t.obj
  keep := t.keep
  item := fun X e1 e2 e3 e4 i pins s σ H E I hf ht hg => by
    refine wpAny_mono (t.item X e1 e2 e3 e4 i pins s σ H E I hf ht (h.1 i H hg)) (fun r s1 hm0 => ?_) fun _ _ z => z
    obtain ⟨u, e, q⟩ := hm0
    refine ⟨u, e, ?_⟩
    refine wpAny_mono q (fun _ s2 hm0 => ?_) fun _ _ z => z
    obtain ⟨x, H', I', r', y, z⟩ := hm0
    exact ⟨x, H', I', r', h.2.1 i H x H' y, z⟩
  done := fun X e1 e2 e3 e4 i pins s σ H E I hf ht hg => t.done X e1 e2 e3 e4 i pins s σ H E I hf ht (h.2.2 i H hg)
  self := t.self
theorem PIE.le {pins : List (Addr × Obj)} {σ : St} {tg : Expr} {R R' : It → Hp → Prop} {v : Value} {s : Shared} (h : PIE X pins σ tg R' v s) (f : ∀ J H, R' J H → ∃ J', ((∀ i H, J'.go i H → J.go i H) ∧ (∀ i H x H', J.yld i H x H' → J'.yld i H x H') ∧ ∀ i H, J'.stop i H → J.stop i H) ∧ R J' H) : PIE X pins σ tg R v s := by
  obtain ⟨it, fp, tn, J, H', e, I, t, z, g, r⟩ := h
  obtain ⟨J', l, r'⟩ := f J H' r
  exact ⟨it, fp, tn, J', H', e, I, t.le l, z, g, r'⟩
theorem PE.wish {e : Expr} {t : TE} (h : PE X e t) (Q0 : V → Hp → Prop) : PE X e (fun σ H Q => t σ H Q0 ∧ ∀ x H1, Q0 x H1 → Q x H1) := fun pins s σ H Q I ⟨h1, h2⟩ => wpAny_mono (h pins s σ H Q0 I h1) (fun _ _ ⟨x, H1, I1, r1, q1⟩ => ⟨x, H1, I1, r1, h2 x H1 q1⟩) fun _ _ z => z
theorem pi_list0 {tg l : Expr} {tl : TE} (hl : PE X l tl) : PI X tg l (iList K0 tl) := fun pins s σ H R I h =>
  wpAny_mono (pi_list (hl.wish (fun x H1 => ∃ a, x = .ref a ∧ (∃ xs, SqL K0 H1 a xs) ∧ R (Itl K0 a) H1)) pins s σ H (fun J H' => ∃ a, J = Itl X.K a ∧ R (Itl K0 a) H') I ⟨h, fun x H1 ⟨a, e, ⟨xs, hx⟩, r⟩ => ⟨a, e, ⟨xs, hx.k0⟩, a, rfl, r⟩⟩)
    (fun _ _ q => wpAny_mono q (fun _ _ p => p.le fun J H' ⟨a, e, r⟩ => ⟨Itl K0 a, by subst e; exact Itl.le a, r⟩) fun _ _ z => z) fun _ _ z => z
end
end L2
set_option linter.all false
namespace L2
open PySem PySem.Spec PyProof.Rows
end L2
set_option Elab.async false
set_option linter.all false
set_option maxHeartbeats 4000000
namespace L2
open PySem
section
variable {X : Cx} {pins : List (Addr × Obj)} {σ : St} {H : Hp} {s : Shared} {a : Addr} {kvs : List (Key × V)} {k : Key} {u : Value} {A : Around} {E : Value → Shared → Prop}
end
section
variable {X : Cx} {o e f : Expr} {apos cpos : Pos} {td ty tx : TE}
end
end L2
set_option Elab.async false
set_option linter.all false
set_option maxRecDepth 100000
set_option maxHeartbeats 4000000
namespace L2
open PySem PySem.Spec PyProof.Rows
theorem pe_gstr {X : Cx} {x z : Str} {pos : Pos} (hm : ∃ t, X.mg x = some (.str z t)) (hg : Gl X x := by rfl) (hd : (x == ("__debug__" : Str)) = false := by decide) : PE X (.Name x pos) (tC (.str z)) := by
  obtain ⟨t, hm⟩ := hm
  exact pe_glob hg hm ⟨t, rfl⟩ hd
theorem vals_from : ∀ (ps : List Str) (k : Nat), Vals (ps.map V.str) (strsFrom k ps)
  | [], _ => .nil
  | p :: r, k => .cons ⟨k, rfl⟩ (vals_from r (k + 1))
def rSplit : V → List V → Hp → VK → Prop := fun x vs H Q => ∃ z y, x = .str z ∧ vs = [.str y] ∧ (y.length == 0) = false ∧ z.length + 2 ≤ sizeLine ∧ ∀ p, H p = none → Q (.ref p) (upd H p (.lst ((Txt.split z y).map V.str)))
section
variable {X : Cx}
theorem mt_split : MtM X "str.split" rSplit := by
  intro pins s σ H x vs v us Q I rx rv h
  obtain ⟨z, y, rfl, rfl, hy, hz, q⟩ := h
  obtain ⟨t, rfl⟩ := rx
  obtain ⟨u, rfl, t', rfl⟩ := rv.one
  have hf := (fact_split z y).2
  have lay : ∀ (its : List Value) (tk : Nat), Vals ((Txt.split z y).map V.str) its → EP X pins σ Q (.ref s.heap.objs.size) { heap := s.heap.push { cls := .type "list", data := .seq its.toArray }, gens := s.gens, drawn := s.drawn, toks := tk, os := s.os } := fun its tk r => by
    refine ⟨.ref s.heap.objs.size, _, I.laid (t' := tk) (o := .lst ((Txt.split z y).map V.str)) (fun b ob q => Heap.get?_push_of_some _ q) (Nat.le_refl _) ?_, rfl, q _ (I.hok.fresh (Nat.le_refl _))⟩
    exact ⟨by rw [List.length_map]; omega, its, 0, r, Heap.get?_push_size _ rfl⟩
  cases c1 : (decide (z.length < y.length) || decide (Builtin.Str.strKind z < Builtin.Str.strKind y)) with
  | true =>
    have e : Txt.split z y = [z] := by unfold Txt.split; rw [if_pos c1]
    exact call_meets F.slot_str_split (typeIs_str s z t) F.entry_str_split (F.args_str_split_2 _ _) (meets_str_split_cannot_occur z y t t' c1) (lay [.str z t] _ (by rw [e]; exact .cons ⟨t, rfl⟩ .nil))
  | false =>
    cases c2 : (Builtin.Str.occurrences z y 0 z.length (z.length + 1)).isEmpty with
    | true =>
      have e : Txt.split z y = [z] := by unfold Txt.split; rw [if_neg (by rw [c1]; decide), if_pos c2]
      exact call_meets F.slot_str_split (typeIs_str s z t) F.entry_str_split (F.args_str_split_2 _ _) (meets_str_split_not_found z y t t' c1 hy c2) (lay [.str z t] _ (by rw [e]; exact .cons ⟨t, rfl⟩ .nil))
    | false =>
      have e : Txt.split z y = Builtin.Str.partsBetween z (Builtin.Str.occurrences z y 0 z.length (z.length + 1)) y.length := by unfold Txt.split; rw [if_neg (by rw [c1]; decide), if_neg (by rw [c2]; decide)]
      exact call_meets F.slot_str_split (typeIs_str s z t) F.entry_str_split (F.args_str_split_2 _ _) (meets_str_split_sep z y t t' c1 hy c2 (by omega) (by rw [← e]; omega)) (lay _ _ (by rw [e]; exact vals_from _ _))
def rPart : V → List V → Hp → VK → Prop := fun x vs H Q => ∃ z y, x = .str z ∧ vs = [.str y] ∧ (y.length == 0) = false ∧ z.length ≤ sizeLine ∧ ∀ p, H p = none → Q (.ref p) (upd H p (.tup [.str (Txt.partition z y).1, .str (Txt.partition z y).2.1, .str (Txt.partition z y).2.2]))
theorem mt_partition : MtM X "str.partition" rPart := by
  intro pins s σ H x vs v us Q I rx rv h
  obtain ⟨z, y, rfl, rfl, hy, hz, q⟩ := h
  obtain ⟨t, rfl⟩ := rx
  obtain ⟨u, rfl, t', rfl⟩ := rv.one
  have lay : ∀ (its : List Value) (tk : Nat), Vals [.str (Txt.partition z y).1, .str (Txt.partition z y).2.1, .str (Txt.partition z y).2.2] its → EP X pins σ Q (.ref s.heap.objs.size) { heap := s.heap.push { cls := .type "tuple", data := .seq its.toArray }, gens := s.gens, drawn := s.drawn, toks := tk, os := s.os } := fun its tk r => by
    refine ⟨.ref s.heap.objs.size, _, I.laid (t' := tk) (o := .tup _) (fun b ob q => Heap.get?_push_of_some _ q) (Nat.le_refl _) ?_, rfl, q _ (I.hok.fresh (Nat.le_refl _))⟩
    exact ⟨by show 3 ≤ sizeLine; decide, its, r, IsTup.new _ _⟩
  refine call_meets F.slot_str_partition (typeIs_str s z t) F.entry_str_partition (F.args_str_partition_2 _ _) (meets_str_partition z y t t' hy hz) ?_
  cases c : Builtin.Str.occurrences z y 0 z.length 1 with
  | nil => exact lay [.str z t, .str Str.empty s.toks, .str Str.empty s.toks] _ (by unfold Txt.partition; rw [c]; exact .cons ⟨_, rfl⟩ (.cons ⟨_, rfl⟩ (.cons ⟨_, rfl⟩ .nil)))
  | cons i r => exact lay [.str (Builtin.Str.strSub z 0 i) s.toks, .str y t', .str (Builtin.Str.strSub z (i + y.length) z.length) (s.toks + 1)] _ (by unfold Txt.partition; rw [c]; exact .cons ⟨_, rfl⟩ (.cons ⟨_, rfl⟩ (.cons ⟨_, rfl⟩ .nil)))
theorem strs_are : ∀ {ys : List Str} {us : List Value}, Vals (ys.map V.str) us → StrsAre us ys
  | [], _, r => by cases r; exact .nil
  | y :: ys, _, r => by
    cases r with
    | cons h r =>
      obtain ⟨t, e⟩ := h
      subst e
      exact .cons y t (strs_are r)
def rJoin (K : PySem.W.Frag) : V → List V → Hp → VK → Prop := fun x vs H Q => ∃ (z : Str) (a : Addr) (ys : List Str), x = .str z ∧ vs = [.ref a] ∧ SqL K H a (ys.map V.str) ∧ z.length ≤ 64 ∧ (ys.map fun x => x.length).sum + ys.length * 64 ≤ 16777216 ∧ Q (.str (Txt.join z ys)) H
theorem mt_join : MtM X "str.join" (rJoin X.K) := by
  intro pins s σ H x vs v us Q I rx rv h
  obtain ⟨z, a, ys, rfl, rfl, hq, h64, hs, q⟩ := h
  obtain ⟨t, rfl⟩ := rx
  obtain ⟨u, rfl, ru⟩ := rv.one
  cases ru
  obtain ⟨its, r, pl, hz⟩ := I.list hq
  exact PyProof.Rows.join_listC pl.isList (by simpa using strs_are r) h64 hs fun t' k => ⟨.str _, H, I.kept (t' := k) fun b o e => e, ⟨t', rfl⟩, q⟩
end
end L2
set_option Elab.async false
set_option linter.all false
set_option maxRecDepth 100000
set_option maxHeartbeats 4000000
namespace L2
open PySem PySem.Spec PyProof.Rows
theorem range_all (bs : List Bool) : (List.range bs.length).all (fun i => bs.getD i false) = bs.all id := by
  rw [Bool.eq_iff_iff, List.all_eq_true, List.all_eq_true]
  constructor
  · intro h b hb
    obtain ⟨i, hi⟩ := List.getElem?_of_mem hb
    have hl := (List.getElem?_eq_some_iff.mp hi).1
    have := h i (List.mem_range.mpr hl)
    rw [List.getD_eq_getElem?_getD, hi] at this
    exact this
  · intro h i hi
    have hl := List.mem_range.mp hi
    rw [List.getD_eq_getElem?_getD, List.getElem?_eq_getElem hl]
    exact h _ (List.getElem_mem hl)
section
variable {X : Cx}
theorem call_allL (hc : X.calm = true) : CallR X (.builtin "all") (fun xs H Q => ∃ (a : Addr) (bs : List Bool), xs = [.ref a] ∧ SqL X.K H a (bs.map V.bl) ∧ Q (.bl (bs.all id)) H) := by
  intro pins s σ H xs us Q I r h
  obtain ⟨a, bs, rfl, ha, q⟩ := h
  obtain ⟨u, rfl, ru⟩ := vals1 r
  cases ru
  obtain ⟨its, rv, pl, hz⟩ := I.list ha
  have ei := vals_bls rv
  subst ei
  have hal : a < s.heap.objs.size := by
    obtain ⟨o, h1, _⟩ := pl.isList
    exact Heap.lt_size h1
  refine call_all_walk (wpAny_pyIter_list pl.isList ⟨s.heap.objs.size, _, _, _, _, _, fun i => bs.getD i false, rfl, Walks.list (A := X.A.in1) (I.ok.hd hc) s.heap.objs.size a (Nat.ne_of_lt hal) (bs.map Value.bool).toArray, ⟨⟨_, Heap.get?_push_size _ rfl, rfl, rfl⟩, ?_⟩, fun i v s' Q' E' hv hq => ?_, fun h' tk k => ?_⟩)
  · obtain ⟨o, h1, h2⟩ := pl.isList
    exact ⟨o, Heap.get?_push_of_some _ h1, h2⟩
  · have hv' : (bs.map Value.bool)[i]? = some v := by simpa using hv
    rw [List.getElem?_map] at hv'
    cases e : bs[i]? with
    | none => rw [e] at hv'; cases hv'
    | some b =>
      rw [e] at hv'; cases hv'
      refine wpAny_truthy_bool ?_
      have : bs.getD i false = b := by rw [List.getD_eq_getElem?_getD, e]; rfl
      have hq' : Q' (bs.getD i false) s' := hq
      rw [this] at hq'
      exact hq'
  · have e : (List.range (bs.map Value.bool).toArray.size).all (fun i => bs.getD i false) = bs.all id := by
      rw [← range_all bs]; simp
    rw [e]
    refine ⟨.bl (bs.all id), H, I.kept (t' := tk) fun b o hb => ?_, rfl, q⟩
    exact k b o (by rw [List.mem_singleton]; exact Nat.ne_of_lt (Heap.lt_size hb)) (Heap.get?_push_of_some _ hb)
end
def Its (z : Str) : It where
  go := fun i _ => i < z.cps.size
  yld := fun i H x H' => H' = H ∧ ∃ c, z.cps[i]? = some c ∧ x = .str ⟨#[c]⟩
  stop := fun i _ => i = z.cps.size
theorem walk_str {P : Program} {w : World} {A : Around} (h : A.handled = none) (it : Addr) (z : Str) (t : Tok) : Walks P w A it [it] [it] z.cps.size (SignAt z) (fun i h => h.IsStrIter it (strIterType z) z t i) := by
  unfold strIterType
  split
  · exact Walks.strAscii h it z t
  · exact Walks.strWide h it z t
theorem turn_str {P : Program} {w : World} {K : PySem.W.Frag} {tg : Expr} (z : Str) (t : Tok) (it : Addr) : Turn P w K tg (Its z) [it] it (fun i h => h.IsStrIter it (strIterType z) z t i) where
  mem := by simp
  obj := fun i h st b hb => by
    have e : b = it := by simpa using hb
    subst e
    obtain ⟨o, e, c, d⟩ := st
    exact ⟨o, e, fun v z => by rw [d] at z; cases z⟩
  keep := fun i h h' st k => by
    obtain ⟨o, e, c, d⟩ := st
    exact ⟨o, k it (by simp) o e, c, d⟩
  item := by
    intro X hP hw hK hc i pins s σ H E I hf st hg
    subst hP hw hK
    obtain ⟨f0, f1, f2, f3, f4, f5⟩ := hf it (by simp)
    refine (walk_str (P := X.prog) (w := X.w) (I.ok.hd hc) it z t).item i s _ _ hg st fun v h' tk hv st' kk => ?_
    obtain ⟨c, u, hc', rfl⟩ := hv
    have I1 : Inv X pins σ H { s with heap := h', toks := tk } := I.turned (fun b o hb e => kk b o (by simpa using hb) e) f0 f1 f3 f4 f5
    obtain ⟨o, e, cc, d⟩ := id st'
    refine ⟨_, rfl, go_of (s := { s with heap := h', toks := tk }) e cc d (by unfold strIterType; split <;> decide) ⟨.str ⟨#[c]⟩, H, I1, ⟨u, rfl⟩, ⟨rfl, c, hc', rfl⟩, st', fun b hb => (hf b hb).1⟩⟩
  done := by
    intro X hP hw hK hc i pins s σ H E I hf st hg
    subst hP hw hK
    obtain ⟨f0, f1, f2, f3, f4, f5⟩ := hf it (by simp)
    have e : i = z.cps.size := hg
    subst e
    exact (walk_str (P := X.prog) (w := X.w) (I.ok.hd hc) it z t).done s _ _ st fun h' tk kk => ⟨rfl, I.turned (fun b o hb e => kk b o (by simpa using hb) e) f0 f1 f3 f4 f5⟩
  self := fun A i s Q E st h => by
    unfold strIterType at st
    split at st
    · exact wpAny_pyIter_striter_ascii st h
    · exact wpAny_pyIter_striter_wide st h
def iStr (tl : TE) : TI := fun σ H R => tl σ H fun x H1 => ∃ z, x = .str z ∧ R (Its z) H1
theorem pi_str {X : Cx} {tg l : Expr} {tl : TE} (hl : PE X l tl) : PI X tg l (iStr tl) := by
  intro pins s σ H R I h
  refine thn (hl pins s σ H _ I h) fun v s1 hm0 => ?_
  obtain ⟨x, H1, I1, r1, q1⟩ := hm0
  obtain ⟨z, e, q⟩ := q1
  subst e
  obtain ⟨t, rfl⟩ := r1
  refine wpAny_pyIter_strU ?_
  refine ⟨s1.heap.objs.size, [s1.heap.objs.size], _, _, H1, rfl, I1.kept (t' := s1.toks) fun b o e => Heap.get?_push_of_some _ e, turn_str z t _, ⟨_, Heap.get?_push_size _ rfl, rfl, rfl⟩, fun b hb => ?_, q⟩
  have e : b = s1.heap.objs.size := by simpa using hb
  subst e
  exact I1.fpOk (Nat.le_refl _) (I1.hok.fresh (Nat.le_refl _))
theorem comp_strD {z : Str} {tt : TTg} {tc : TT} {te : TE} {cap : List Nat} {σ : St} {H : Hp} {D : Addr → List V → Hp → Prop} (Pv : Nat → List V → Hp → Prop) (h0 : Pv 0 [] H) (hz : z.cps.size ≤ sizeLine) (hl : ∀ i ys H, i ≤ z.cps.size → Pv i ys H → ys.length ≤ i)
    (hs : ∀ i c ys H, z.cps[i]? = some c → Pv i ys H → tt (.str ⟨#[c]⟩) H fun ws => tc (ws.map some ++ capS σ cap) H fun b H4 => if b = true then te (ws.map some ++ capS σ cap) H4 fun y H5 => Pv (i + 1) (ys ++ [y]) H5 else Pv (i + 1) ys H4)
    (hd : ∀ ys H, Pv z.cps.size ys H → ∀ p, H p = none → D p ys H) :
    ∃ W : Nat → Nat → List V → Hp → Prop, (∃ m, W 0 m [] H) ∧ ∀ i m ys H2, W i m ys H2 →
    ((Its z).stop i H2 ∧ ys.length ≤ sizeLine ∧ ∀ p, H2 p = none → D p ys H2) ∨
    ((Its z).go i H2 ∧ ∃ N : List V → Hp → Prop, (∀ ys' H', N ys' H' → ys'.length ≤ sizeLine ∧ ∃ m', m' < m ∧ W (i + 1) m' ys' H') ∧
      ∀ x H3, (Its z).yld i H2 x H3 → tt x H3 fun ws => tc (ws.map some ++ capS σ cap) H3 fun b H4 => if b = true then te (ws.map some ++ capS σ cap) H4 fun y H5 => N (ys ++ [y]) H5 else N ys H4) := by
  refine ⟨fun i m ys H => m = z.cps.size - i ∧ i ≤ z.cps.size ∧ Pv i ys H, ⟨z.cps.size, by simp, Nat.zero_le _, h0⟩, ?_⟩
  rintro i m ys H2 ⟨rfl, hi, p⟩
  have q := hl i ys H2 hi p
  by_cases hlt : i < z.cps.size
  · refine .inr ⟨hlt, Pv (i + 1), fun ys' H' p' => ⟨Nat.le_trans (hl (i + 1) ys' H' hlt p') (Nat.le_trans hlt hz), z.cps.size - (i + 1), by omega, rfl, hlt, p'⟩, fun x H' y => ?_⟩
    obtain ⟨rfl, c, hc, rfl⟩ := y
    exact hs i c ys _ hc p
  · have e : i = z.cps.size := by omega
    subst e
    exact .inl ⟨rfl, Nat.le_trans q hz, fun p' hp' => hd ys H2 p p' hp'⟩
end L2
set_option Elab.async false
set_option linter.all false
set_option maxRecDepth 100000
set_option maxHeartbeats 4000000
namespace L2
open PySem PySem.Spec PyProof.Rows
def KDict (P : Program) (w : World) (K : PySem.W.Frag) (a : Addr) (kvs : List (Key × V)) : Prop :=
  (a == sysModules) = false ∧ ∃ vs, KV kvs vs ∧ ∀ h : Heap, K.In h → h.DictOf (mixKind P w) a vs
def tDGetK (P : Program) (w : World) (K : PySem.W.Frag) (td ty : TE) : TE := fun σ H Q => td σ H fun x H1 => ty σ H1 fun y H2 => ∃ a kvs k v, x = .ref a ∧ KDict P w K a kvs ∧ y = kV k ∧ valV kvs k = some v ∧ Q v H2
def tDInK (P : Program) (w : World) (K : PySem.W.Frag) (neg : Bool) (ty td : TE) : TE := fun σ H Q => ty σ H fun y H1 => td σ H1 fun x H2 => ∃ a kvs k, x = .ref a ∧ KDict P w K a kvs ∧ y = kV k ∧ Q (.bl (if neg then !(valV kvs k).isSome else (valV kvs k).isSome)) H2
section
variable {X : Cx} {o i : Expr} {pos : Pos} {td ty : TE}
theorem pe_dgetK (ho : PE X o td) (hi : PE X i ty) (hs : NoSl i) : PE X (.Subscript o i pos) (tDGetK X.prog X.w X.K td ty) := by
  intro pins s σ H Q I h
  refine subD_of PySem.F.slot_dict_getitem.lookup hs (thn (ho pins s σ H _ I h) fun u s1 hm0 => ?_)
  obtain ⟨x, H1, I1, rx, q1⟩ := hm0
  refine thn (hi pins s1 σ H1 _ I1 q1) fun iv s2 hm1 => ?_
  obtain ⟨y, H2, I2, ry, a, kvs, k, v, ex, ⟨hd, vs, rel, dd⟩, ey, hv, q2⟩ := hm1
  subst ex
  subst ey
  obtain rfl : u = Value.ref a := rx
  have d := dd _ I2.kIn
  obtain ⟨w', hw, rw'⟩ := RelO.some_of (v := v) (o := valueAt vs k) (by rw [← hv]; exact rel.val k)
  exact ⟨d.typeIs, wpAny_getItem_of (kV_is ry) d.mapOf hw ⟨v, H2, I2.tok _, rw', q2⟩⟩
theorem pc_dnotinK (hi : PE X i ty) (ho : PE X o td) : PC X .NotIn i o (tDInK X.prog X.w X.K true ty td) := by
  intro pins s σ H Q I h
  refine thn (hi pins s σ H _ I h) fun iv s1 hm0 => ?_
  obtain ⟨y, H1, I1, ry, q1⟩ := hm0
  refine thn (ho pins s1 σ H1 _ I1 q1) fun u s2 hm1 => ?_
  obtain ⟨x, H2, I2, rx, a, kvs, k, ex, ⟨hd, vs, rel, dd⟩, ey, q2⟩ := hm1
  subst ex
  subst ey
  obtain rfl : u = Value.ref a := rx
  have d := dd _ I2.kIn
  refine wpAny_notIn_of (kV_is ry) hd d.mapOf ?_
  rw [← (rel.val k).isSome_eq]
  exact ⟨.bl (!(valV kvs k).isSome), H2, I2.tok _, rfl, q2⟩
end
end L2
set_option Elab.async false
set_option linter.all false
set_option maxRecDepth 100000
set_option maxHeartbeats 4000000
namespace L2
open PySem PySem.Spec PyProof.Rows
section
variable {X : Cx} {elt tg iter : Expr} {ifs : List Expr} {scope : Scope} {pos : Pos} {N : List Str} {k : Nat} {cap : List Nat} {wi : TI} {tt : TTg} {tc : TT} {te : TE}
end
section
variable {X : Cx} {elt tg iter : Expr} {ifs : List Expr} {scope : Scope} {pos : Pos} {wi : TI} {tt : TTg} {tc : TT} {te : TE}
end
section
variable {X : Cx} {elt tg iter : Expr} {ifs : List Expr} {scope : Scope} {pos : Pos} {wi : TI} {tt : TTg} {tc : TT} {te : TE}
theorem relabel_cf {sc : Scope} {env : Env} {x : Str} (h : sc.names.lookup x = some .cell ∨ sc.names.lookup x = some .free) : (relabel sc env).names.lookup x = some .cell ∨ (relabel sc env).names.lookup x = some .free := by
  rcases h with h | h
  · left
    have go : ∀ (names : List (Str × NameKind)), names.lookup x = some .cell → (names.map fun (n, k) => if (k == NameKind.free && env.scope.kind == .function && env.kindOf n == some .cell) then (n, NameKind.cell) else (n, k)).lookup x = some .cell := by
      intro names
      induction names with
      | nil => intro h; simp at h
      | cons z r ih =>
        obtain ⟨n, k⟩ := z
        intro h
        show List.lookup x ((if (k == NameKind.free && env.scope.kind == .function && env.kindOf n == some .cell) = true then (n, NameKind.cell) else (n, k)) :: _) = _
        cases hx : x == n with
        | true =>
          simp only [List.lookup_cons, hx] at h
          cases h
          split <;> simp [List.lookup_cons, hx]
        | false =>
          simp only [List.lookup_cons, hx] at h
          split <;> (simp only [List.lookup_cons, hx]; exact ih h)
    exact go _ h
  · exact relabel_free h
theorem CompOk.relabel {scope psc : Scope} {N PN : List Str} {k : Nat} {cap : List Nat} {env : Env} (h : CompOk scope psc N PN k cap) : CompOk scope (relabel psc env) N PN k cap :=
  ⟨h.kind, h.len, h.cell, h.loc, fun y hy hf => relabel_cf (h.free y hy hf), h.cap, h.free2⟩
theorem pe_lcN2 {psc : Scope} {env0 : Env} (PN N : List Str) (k : Nat) (cap : List Nat) (hi : PI X tg iter wi) (hg : ∀ cl C s H ex pn, PTg (compCx X scope N cl C s H ex pn) k tg tt) (ht : ∀ cl C s H ex pn, PTs (compCx X scope N cl C s H ex pn) ifs tc)
    (he : ∀ cl C s H ex pn, PE (compCx X scope N cl C s H ex pn) elt te) (hc : X.calm = true := by rfl) (h2 : X.N = PN := by rfl) (h1 : X.env.scope = PySem.relabel psc env0 := by rfl) (S : compOkB scope psc N PN k cap = true := by decide +kernel)
    (hs : ∀ x, foldedSetIterable iter X.env x = pure x := by intro _; rfl) :
    PE X (.ListComp elt [⟨tg, iter, ifs, 0⟩] scope pos) (tComp wi tt tc te cap) := pe_comp hc (by rw [h2, h1]; exact (compOk_of S).relabel) hi hg ht he hs
end
end L2
set_option Elab.async false
set_option linter.all false
set_option maxRecDepth 100000
set_option maxHeartbeats 4000000
namespace L2
open PySem PySem.Spec PyProof.Rows
end L2
set_option Elab.async false
set_option linter.all false
set_option maxRecDepth 100000
set_option maxHeartbeats 4000000
namespace L2
open PySem PySem.Spec PyProof.Rows
end L2
set_option Elab.async false
set_option linter.all false
set_option maxRecDepth 100000
set_option maxHeartbeats 4000000
namespace L2
open PySem PySem.Spec PyProof.Rows
section
variable {X : Cx}
theorem call_int_text : CallR X (.type "int") (fun xs H Q => ∃ (x : Str) (n : Int), xs = [.str x] ∧ intText? x = some n ∧ x.length ≤ 640 ∧ Q (.int n) H) := by
  intro pins s σ H xs us Q I r h
  obtain ⟨x, n, rfl, hn, hl, q⟩ := h
  obtain ⟨u, rfl, t, rfl⟩ := vals1 r
  exact PySem.W.KIN.call_text hn hl ⟨.int n, H, I.tok _, ⟨_, rfl⟩, q⟩
def rStr : Rel Str := fun _ x v => v = .str x
end
end L2
set_option Elab.async false
set_option linter.all false
set_option maxRecDepth 100000
set_option maxHeartbeats 4000000
namespace L2
open PySem PySem.Spec PyProof.Rows
theorem one_at {x : Str} {c i : Nat} : StrLaws.At x ⟨#[c]⟩ x.length i ↔ x.cps.toList[i]? = some c := by
  have hl : x.cps.toList.length = x.length := Array.length_toList
  unfold StrLaws.At Builtin.Str.subAt
  show i + 1 ≤ x.length ∧ (x.cps.extract i (i + 1) == #[c]) = true ↔ _
  have e : (x.cps.extract i (i + 1)).toList = (x.cps.toList.drop i).take 1 := by rw [Array.toList_extract, List.extract_eq_drop_take]; simp
  constructor
  · rintro ⟨h1, h2⟩
    have h3 : x.cps.extract i (i + 1) = #[c] := eq_of_beq h2
    rw [h3] at e
    have h4 : x.cps.toList[i]? = some (x.cps.toList[i]'(by omega)) := by simp
    rw [List.drop_eq_getElem_cons (show i < x.cps.toList.length by omega)] at e
    have h5 : c = x.cps.toList[i]'(by omega) := by simpa using e
    rw [h4, h5]
  · intro h
    obtain ⟨h1, h2⟩ := List.getElem?_eq_some_iff.mp h
    refine ⟨by omega, ?_⟩
    have h3 : x.cps.extract i (i + 1) = #[c] := by
      apply Array.toList_inj.mp
      rw [e, List.drop_eq_getElem_cons h1, h2]; simp
    rw [h3]; simp
theorem part_one {a b : List Nat} {c : Nat} (hc : c ∉ a) : Txt.partition ⟨(a ++ c :: b).toArray⟩ ⟨#[c]⟩ = (⟨a.toArray⟩, ⟨#[c]⟩, ⟨b.toArray⟩) := by
  have hl : (⟨(a ++ c :: b).toArray⟩ : Str).length = a.length + 1 + b.length := by show (a ++ c :: b).toArray.size = _; simp; omega
  have here : (a ++ c :: b)[a.length]? = some c := by simp
  unfold Txt.partition
  rcases StrLaws.occ_head (⟨(a ++ c :: b).toArray⟩ : Str) ⟨#[c]⟩ 1 (Nat.le_refl 1) with ⟨h0, hn⟩ | ⟨i, r, h0, hi, hn⟩
  · exact absurd (one_at.mpr (by simpa using here)) (hn a.length)
  · rw [h0]
    have hi' : (a ++ c :: b)[i]? = some c := by simpa using one_at.mp hi
    have e : i = a.length := by
      rcases Nat.lt_trichotomy i a.length with h | h | h
      · rw [List.getElem?_append_left h] at hi'
        exact absurd (List.mem_of_getElem? hi') hc
      · exact h
      · exact absurd (one_at.mpr (by simpa using here)) (hn _ h)
    subst e
    show (Builtin.Str.strSub _ 0 a.length, (⟨#[c]⟩ : Str), Builtin.Str.strSub _ (a.length + 1) _) = _
    unfold Builtin.Str.strSub
    rw [hl]
    refine Prod.ext ?_ (Prod.ext rfl ?_)
    · show (⟨_⟩ : Str) = ⟨_⟩
      congr 1
      apply Array.toList_inj.mp
      rw [Array.toList_extract]; simp
    · show (⟨_⟩ : Str) = ⟨_⟩
      congr 1
      apply Array.toList_inj.mp
      rw [Array.toList_extract]; simp
end L2
set_option Elab.async false
set_option linter.all false
set_option maxRecDepth 100000
set_option maxHeartbeats 4000000
namespace L2
open PySem PySem.Spec PyProof.Rows
theorem str_list {x : Str} {l : List Nat} (h : x.cps.toList = l) : x = ⟨l.toArray⟩ := by
  obtain ⟨a⟩ := x
  subst h
  rfl
theorem str_len (x : Str) : x.length = x.cps.toList.length := by rw [Array.length_toList]; rfl
theorem app_list (x y : Str) : (x ++ y).cps.toList = x.cps.toList ++ y.cps.toList := by
  show (x.cps ++ y.cps).toList = _
  simp
theorem sub_list (x : Str) (i j : Nat) : (Builtin.Str.strSub x i j).cps.toList = (x.cps.toList.drop i).take (j - i) := by
  unfold Builtin.Str.strSub
  show (x.cps.extract i j).toList = _
  rw [Array.toList_extract, List.extract_eq_drop_take]
theorem at_iff {x y : Str} {i : Nat} : StrLaws.At x y x.length i ↔ i + y.cps.toList.length ≤ x.cps.toList.length ∧ (x.cps.toList.drop i).take y.cps.toList.length = y.cps.toList := by
  have hl := str_len x
  have hy := str_len y
  unfold StrLaws.At Builtin.Str.subAt
  rw [hl, hy]
  refine and_congr_right fun h => ?_
  have e : (x.cps.extract i (i + y.cps.toList.length)).toList = (x.cps.toList.drop i).take y.cps.toList.length := by
    rw [Array.toList_extract, List.extract_eq_drop_take]; simp
  rw [← e]
  constructor
  · intro h; rw [eq_of_beq h]
  · intro h
    have := Array.toList_inj.mp h
    rw [this]; simp
theorem at_first {x y : Str} {c : Nat} {r : List Nat} {i : Nat} (hy : y.cps.toList = c :: r) (h : StrLaws.At x y x.length i) : x.cps.toList[i]? = some c := by
  obtain ⟨h1, h2⟩ := at_iff.mp h
  rw [hy] at h1 h2
  have hi : i < x.cps.toList.length := by simp at h1; simp; omega
  rw [List.drop_eq_getElem_cons hi] at h2
  rw [List.getElem?_eq_getElem hi]
  have := congrArg List.head? h2
  simpa using this
def flatL (s : List Nat) : List (List Nat) → List Nat
  | [] => []
  | [p] => p
  | p :: q :: r => p ++ s ++ flatL s (q :: r)
theorem flat_join (y : Str) : ∀ ps : List Str, (Txt.join y ps).cps.toList = flatL y.cps.toList (ps.map fun p => p.cps.toList) := by
  intro ps
  show (Builtin.Str.glued y ps).cps.toList = _
  rw [StrLaws.glued_eq_join]
  induction ps with
  | nil => rfl
  | cons p r ih =>
    cases r with
    | nil => rfl
    | cons q r =>
      rw [Str.join.eq_3 _ _ _ (fun z => by cases z), app_list, app_list, ih]; rfl
theorem parts_flat {x y : Str} {c : Nat} {s : List Nat} (hy : y.cps.toList = c :: s) : ∀ (ps : List (List Nat)) (a f : Nat) (cuts : List Nat), ps ≠ [] → (∀ p ∈ ps, c ∉ p) → a ≤ x.cps.toList.length → x.cps.toList.drop a = flatL (c :: s) ps → StrLaws.ChainG x y x.length a cuts f → (∀ k, f ≤ k → ¬ StrLaws.At x y x.length k) → StrLaws.partsFrom x y.length a cuts = ps.map fun p => ⟨p.toArray⟩
  | [], _, _, _, h, _, _, _, _, _ => absurd rfl h
  | [p], a, f, cuts, _, hp, ha, he, hc, hf => by
    have he' : x.cps.toList.drop a = p := he
    cases cuts with
    | nil =>
      rw [StrLaws.partsFrom.eq_1]
      refine congrArg (fun z => [z]) (str_list ?_)
      rw [sub_list, he', List.take_of_length_le]
      rw [str_len, ← he', List.length_drop]; omega
    | cons i r =>
      rw [StrLaws.ChainG.eq_2] at hc
      have h1 := at_first hy hc.2.1
      refine absurd ?_ (hp p List.mem_cons_self)
      rw [← he', List.mem_iff_getElem?]
      exact ⟨i - a, by rw [List.getElem?_drop, ← h1]; congr 1; omega⟩
  | p :: q :: r, a, f, cuts, _, hp, ha, he, hc, hf => by
    have he' : x.cps.toList.drop a = p ++ (c :: s) ++ flatL (c :: s) (q :: r) := he
    have hl : x.cps.toList.length - a = p.length + (s.length + 1) + (flatL (c :: s) (q :: r)).length := by
      rw [← List.length_drop, he']; simp; omega
    have here : StrLaws.At x y x.length (a + p.length) := by
      rw [at_iff, hy]
      refine ⟨by rw [List.length_cons]; omega, ?_⟩
      rw [← List.drop_drop, he', List.append_assoc, List.drop_left, List.take_left]
    cases cuts with
    | nil =>
      rw [StrLaws.ChainG.eq_1] at hc
      exact absurd here (hf _ (by omega))
    | cons i t =>
      rw [StrLaws.ChainG.eq_2] at hc
      obtain ⟨c1, c2, c3, c4⟩ := hc
      have h1 := at_first hy c2
      have ei : i = a + p.length := by
        rcases Nat.lt_trichotomy i (a + p.length) with h | h | h
        · refine absurd ?_ (hp p List.mem_cons_self)
          have e1 : (x.cps.toList.drop a)[i - a]? = some c := by rw [List.getElem?_drop, ← h1]; congr 1; omega
          rw [he', List.append_assoc, List.getElem?_append_left (by omega)] at e1
          exact List.mem_of_getElem? e1
        · exact h
        · exact absurd here (c3 _ (by omega) h)
      subst ei
      rw [StrLaws.partsFrom.eq_2, List.map_cons]
      have hyl : y.length = s.length + 1 := by rw [str_len, hy]; rfl
      refine congr (congrArg List.cons (str_list ?_)) ?_
      · rw [sub_list, he', List.append_assoc, Nat.add_sub_cancel_left, List.take_left]
      · refine parts_flat hy (q :: r) _ f t (fun z => by cases z) (fun p' h' => hp p' (List.mem_cons_of_mem _ h')) (by omega) ?_ c4 hf
        rw [hyl, Nat.add_assoc, ← List.drop_drop, he', List.append_assoc, ← List.drop_drop, List.drop_left]
        exact List.drop_left (l₁ := c :: s)
theorem split_join {y : Str} {c : Nat} {s : List Nat} (hy : y.cps.toList = c :: s) (hk : Builtin.Str.strKind y = 1) {ps : List Str} (hne : ps ≠ []) (hp : ∀ p ∈ ps, c ∉ p.cps.toList) : Txt.split (Txt.join y ps) y = ps := by
  obtain ⟨f, h1, h2⟩ := StrLaws.occ_tight (Txt.join y ps) y (by rw [str_len, hy]; simp)
  have key := parts_flat (x := Txt.join y ps) hy (ps.map fun p => p.cps.toList) 0 f _ (fun z => hne (List.map_eq_nil_iff.mp z)) (fun p h => by obtain ⟨q, hq, rfl⟩ := List.mem_map.mp h; exact hp q hq) (Nat.zero_le _) (by rw [List.drop_zero, flat_join, hy]) h1 h2
  have eq : (ps.map fun p => p.cps.toList).map (fun p => (⟨p.toArray⟩ : Str)) = ps := by
    rw [List.map_map]
    exact List.map_id'' (fun x => rfl) _
  rw [eq] at key
  have one : ∀ p, ps = [p] → Txt.join y ps = p := fun p e => by rw [e]; rfl
  unfold Txt.split
  by_cases c1 : (decide ((Txt.join y ps).length < y.length) || decide (Builtin.Str.strKind (Txt.join y ps) < Builtin.Str.strKind y)) = true
  · rw [if_pos c1]
    match hps : ps, hne with
    | [p], _ => rfl
    | p :: q :: r, _ =>
      exfalso
      rw [Bool.or_eq_true] at c1
      rcases c1 with c1 | c1
      · have c1 := of_decide_eq_true c1
        rw [str_len, str_len, flat_join] at c1
        have : flatL y.cps.toList ((p :: q :: r).map fun p => p.cps.toList) = p.cps.toList ++ y.cps.toList ++ flatL y.cps.toList ((q :: r).map fun p => p.cps.toList) := rfl
        rw [hps, this] at c1
        simp at c1
        omega
      · have c1 := of_decide_eq_true c1
        rw [hk] at c1
        unfold Builtin.Str.strKind at c1
        split at c1
        · omega
        · split at c1 <;> omega
  · rw [if_neg c1]
    by_cases c2 : (Builtin.Str.occurrences (Txt.join y ps) y 0 (Txt.join y ps).length ((Txt.join y ps).length + 1)).isEmpty = true
    · rw [if_pos c2]
      have e := List.isEmpty_iff.mp c2
      rw [e, StrLaws.partsFrom.eq_1] at key
      refine Eq.trans ?_ key
      refine congrArg (fun z => [z]) ?_
      symm
      refine (str_list (sub_list _ _ _)).trans ?_
      rw [str_len, List.drop_zero, Nat.sub_zero, List.take_length]
    · rw [if_neg c2, StrLaws.partsBetween_eq]; exact key
end L2
set_option Elab.async false
set_option linter.all false
set_option maxRecDepth 100000
set_option maxHeartbeats 4000000
namespace L2
open PySem PySem.Spec PyProof.Rows
end L2
set_option Elab.async false
set_option linter.all false
set_option maxRecDepth 100000
set_option maxHeartbeats 4000000
namespace L2
open PySem PySem.Spec PyProof.Rows
def dl (n : Nat) : List Nat := (Nat.toDigits 10 n).map Char.toNat
theorem dl_val (n : Nat) : NumText.digitsVal (dl n) = n := PySem.W.KIN.val_back n
theorem dl_len (n : Nat) : 1 ≤ (dl n).length := by unfold dl; rw [List.length_map]; exact Nat.length_toDigits_pos
theorem dl_le {n k : Nat} (hk : 0 < k) (h : n < 10 ^ k) : (dl n).length ≤ k := by unfold dl; rw [List.length_map]; exact (Nat.length_toDigits_le_iff (by decide) hk).mpr h
theorem dl_all (n : Nat) : NumText.AllDigits (dl n) := fun c hc => by
  obtain ⟨d, hd, rfl⟩ := List.mem_map.mp hc
  have := Nat.isDigit_of_mem_toDigits (b := 10) (by decide) (by decide) hd
  unfold Char.isDigit at this
  rw [Bool.and_eq_true] at this
  have h1 := of_decide_eq_true this.1
  have h2 := of_decide_eq_true this.2
  have e1 : (48 : UInt32) ≤ d.val := h1
  have e2 : d.val ≤ (57 : UInt32) := h2
  rw [UInt32.le_iff_toNat_le] at e1 e2
  exact ⟨e1, e2⟩
theorem dl_zero : dl 0 = [48] := by decide +kernel
theorem dl_head {n : Nat} {r : List Nat} (h : dl n = 48 :: r) : n = 0 := by
  have hv := dl_val n
  have ha := dl_all n
  have h1 := NumText.toDigits_all (dl n) ha
  rw [hv] at h1
  have hl : (Nat.toDigits 10 n).length = (dl n).length := by unfold dl; rw [List.length_map]
  rw [h1, h] at hl
  have hd : List.dropWhile (fun x => x == 48) (48 :: r) = List.dropWhile (fun x => x == 48) r := by rw [List.dropWhile_cons]; rfl
  rw [hd] at hl
  have hle : (List.dropWhile (fun x : Nat => x == 48) r).length ≤ r.length := List.Sublist.length_le (List.dropWhile_sublist _)
  cases e : List.dropWhile (fun x : Nat => x == 48) r with
  | nil =>
    rw [e] at hl
    have hr : r = [] := by
      have : 1 = r.length + 1 := by simpa using hl
      exact List.length_eq_zero_iff.mp (by omega)
    rw [hr] at h
    have : NumText.digitsVal (dl n) = 0 := by rw [h]; rfl
    omega
  | cons c t =>
    rw [e] at hl hle
    simp at hl hle
    omega
theorem neg_text {i : Int} (h : i < 0) : (Str.ofString (toString i)).cps.toList = 45 :: dl i.natAbs := by
  obtain ⟨m, rfl⟩ : ∃ m : Nat, i = Int.negSucc m := by
    cases i with
    | ofNat n => exact absurd h (by simp)
    | negSucc m => exact ⟨m, rfl⟩
  have e : toString (Int.negSucc m) = "-" ++ toString (m + 1) := rfl
  rw [e, Str.ofString_eq_toList]
  show ((("-" ++ toString (m + 1)).toList.map Char.toNat).toArray).toList = _
  rw [List.toList_toArray, String.toList_append, List.map_append]
  have e2 : (toString (m + 1)).toList = Nat.toDigits 10 (m + 1) := Nat.toList_repr
  rw [e2]; rfl
theorem pos_text {i : Int} (h : 0 ≤ i) : (Str.ofString (toString i)).cps.toList = dl i.natAbs := by
  obtain ⟨m, rfl⟩ : ∃ m : Nat, i = Int.ofNat m := ⟨i.toNat, by simp; omega⟩
  rw [text_ofNat]; rfl
theorem int_back (i : Int) (h : i.natAbs < 10 ^ 60) : intText? (Str.ofString (toString i)) = some i ∧ (Str.ofString (toString i)).length ≤ 61 := by
  have hl : (dl i.natAbs).length ≤ 60 := dl_le (by decide) h
  have hne : dl i.natAbs ≠ [] := fun z => by have := dl_len i.natAbs; rw [z] at this; simp at this
  by_cases hi : i < 0
  · have ht := neg_text hi
    have hL : (Str.ofString (toString i)).length ≤ 61 := by rw [str_len, ht, List.length_cons]; omega
    refine ⟨?_, hL⟩
    rw [intText_neg ht (dl_all _) hne (by omega), dl_val]
    congr 1; omega
  · have ht := pos_text (i := i) (by omega)
    have hL : (Str.ofString (toString i)).length ≤ 61 := by rw [str_len, ht]; omega
    refine ⟨?_, hL⟩
    rw [intText_digits (by rw [ht]; exact dl_all _) (by rw [ht]; exact hne) (by omega), ht, dl_val]
    congr 1; omega
end L2
set_option Elab.async false
set_option linter.all false
set_option maxRecDepth 100000
set_option maxHeartbeats 4000000
namespace L2
open PySem PySem.Spec PyProof.Rows
section
variable {P : Program} {w : World} {A : Around} {E : Value → Shared → Prop} {s : Shared}
theorem setf {o : Obj} {vs : Array Value} {it : Addr} {h : Heap} (e : h.get? it = some o) (d : o.data = .fields vs) (k : Nat) (x : Value) : (h.update it (Obj.mapFields fun v => v.setIfInBounds k x)).get? it = some (Obj.mapFields (fun v => v.setIfInBounds k x) o) ∧ (Obj.mapFields (fun v => v.setIfInBounds k x) o).cls = o.cls ∧ (Obj.mapFields (fun v => v.setIfInBounds k x) o).data = .fields (vs.setIfInBounds k x) := by
  obtain ⟨c, dd, da, sl⟩ := o
  have d' : da = .fields vs := d
  subst d'
  exact ⟨Heap.get?_update_self _ e rfl, rfl, rfl⟩
theorem first_stop : firstArgMember (.type "StopIteration") [] = pure Value.none := by kernel_rfl
theorem stop_wp {α : Type} {Q : α → Shared → Prop} (hh : A.handled = none) (q : ∀ (h' : Heap) (e : Addr), (∀ b o, s.heap.get? b = some o → h'.get? b = some o) → (∃ o, h'.get? e = some o ∧ o.cls = .type "StopIteration") → E (.ref e) { s with heap := h' }) : wpAny (model P w) A (Builtin.SmallTypes.stopIteration (α := α)) Q E s := by
  unfold Builtin.SmallTypes.stopIteration newExc
  refine wpAny_bind (wpAny_bind (wpAny_newTuple ?_))
  rw [first_stop]
  refine wpAny_bind (wpAny_pure ?_)
  refine wpAny_newObj_type ?_
  refine wpAny_raiseNew_none hh (q _ _ (fun b o e => ?_) ⟨_, Heap.get?_push_size _ rfl, rfl⟩)
  exact Heap.get?_push_of_some _ (Heap.get?_push_of_some _ e)
theorem nextOf_tup_item {it t : Addr} {i : Nat} {items : Array Value} {x : Value} {Q : Value → Shared → Prop} (hI : s.heap.IsTupleIter it t i) (ht : s.heap.IsTuple t items) (hx : items[i]? = some x)
    (q : ∀ h' : Heap, h'.IsTupleIter it t (i + 1) → Heap.SameBut it s.heap h' → Q x { s with heap := h' }) : wpAny (model P w) A (Builtin.SmallTypes.nextOf (.ref it)) Q E s := by
  obtain ⟨o, e, c, d⟩ := id hI
  obtain ⟨o2, e2, c2, n2, d2⟩ := ht
  have ty : s.TypeIs (.ref it) "tuple_iterator" := ⟨o, e, c⟩
  unfold Builtin.SmallTypes.nextOf
  refine wpAny_bind (wpAny_callSpecial?_slotG ty slot_tupleiter_next.toG ?_)
  refine wpAny_call_entry slot_tupleiter_next ty entry_tupleiter_next ?_ (args_tupleiter_next _)
  show wpAny _ _ (_ >>= _) _ _ _
  refine wpAny_bind (m := slotArgs "__next__" 0 _) (wpAny_pure ?_)
  refine wpAny_bind (wpAny_field e d (x := .ref t) (i := 0) rfl ?_)
  show wpAny _ _ (ite _ _ _) _ _ _
  rw [if_neg (show ¬ (Value.ref t == Value.none) = true from Bool.false_ne_true)]
  refine wpAny_bind (wpAny_field e d (x := .int (i : Nat) 0) (i := 1) rfl ?_)
  refine wpAny_bind (wpAny_seqItems e2 d2 ?_)
  show wpAny _ _ (match items[((i : Nat) : Int).toNat]? with | some x => _ | none => _) _ _ _
  rw [Int.toNat_natCast, hx]
  refine wpAny_bind (wpAny_setField e d (show 1 < 2 by decide) ?_)
  obtain ⟨g1, g2, g3⟩ := setf e d 1 (rawInt (((i : Nat) : Int) + 1))
  exact wpAny_pure ⟨x, rfl, wpAny_pure (q _ ⟨_, g1, g2.trans c, g3⟩ (Heap.SameBut.update _ _ _))⟩
theorem nextOf_tup_end {it t : Addr} {i : Nat} {items : Array Value} {Q : Value → Shared → Prop} (hh : A.handled = none) (hI : s.heap.IsTupleIter it t i) (ht : s.heap.IsTuple t items) (hx : items[i]? = none)
    (q : ∀ (h' : Heap) (e : Addr), Heap.ExtBut it s.heap h' → (∃ o, h'.get? e = some o ∧ o.cls = .type "StopIteration") → E (.ref e) { s with heap := h' }) : wpAny (model P w) A (Builtin.SmallTypes.nextOf (.ref it)) Q E s := by
  obtain ⟨o, e, c, d⟩ := id hI
  obtain ⟨o2, e2, c2, n2, d2⟩ := ht
  have ty : s.TypeIs (.ref it) "tuple_iterator" := ⟨o, e, c⟩
  unfold Builtin.SmallTypes.nextOf
  refine wpAny_bind (wpAny_callSpecial?_slotG ty slot_tupleiter_next.toG ?_)
  refine wpAny_call_entry slot_tupleiter_next ty entry_tupleiter_next ?_ (args_tupleiter_next _)
  show wpAny _ _ (_ >>= _) _ _ _
  refine wpAny_bind (m := slotArgs "__next__" 0 _) (wpAny_pure ?_)
  refine wpAny_bind (wpAny_field e d (x := .ref t) (i := 0) rfl ?_)
  show wpAny _ _ (ite _ _ _) _ _ _
  rw [if_neg (show ¬ (Value.ref t == Value.none) = true from Bool.false_ne_true)]
  refine wpAny_bind (wpAny_field e d (x := .int (i : Nat) 0) (i := 1) rfl ?_)
  refine wpAny_bind (wpAny_seqItems e2 d2 ?_)
  show wpAny _ _ (match items[((i : Nat) : Int).toNat]? with | some x => _ | none => _) _ _ _
  rw [Int.toNat_natCast, hx]
  refine wpAny_bind (wpAny_rule (wpAny_bind (wpAny_setField e d (show 0 < 2 by decide) ?_)))
  refine stop_wp (by simpa using hh) fun h' ea hk ho => ?_
  refine q h' ea (fun b ob hb e1 => hk b ob ?_) ho
  show (s.heap.update it _).get? b = _
  rw [(Heap.SameBut.update _ _ _).2 b hb]; exact e1
theorem zipT_next_item {z TI TO i1 i2 t1 t2 : Addr} {k : Nat} {xs ys : Array Value} {x y a b : Value} {Q : Value → Shared → Prop} (ap : ZipApart z TI TO i1 i2 t1 t2) (zz : IsZip s.heap z TI TO .none) (ti : IsPair s.heap TI (.ref i1) (.ref i2)) (to : IsPair s.heap TO a b)
    (s1 : s.heap.IsTupleIter i1 t1 k) (s2 : s.heap.IsTupleIter i2 t2 k) (p1 : s.heap.IsTuple t1 xs) (p2 : s.heap.IsTuple t2 ys) (hx : xs[k]? = some x) (hy : ys[k]? = some y)
    (q : ∀ h' : Heap, IsZip h' z TI TO (rawInt s.heap.objs.size) → IsPair h' TO x y → h'.IsTupleIter i1 t1 (k + 1) → h'.IsTupleIter i2 t2 (k + 1) → IsPair h' s.heap.objs.size x y → h'.objs.size = s.heap.objs.size + 1 → (∀ c o, c ≠ z → c ≠ TO → c ≠ i1 → c ≠ i2 → s.heap.get? c = some o → h'.get? c = some o) → Q (.ref s.heap.objs.size) { s with heap := h' }) :
    wpAny (model P w) A (Builtin.«zip.__next__» { pos := [.ref z] }) (fun fin s' => ∃ v, fin = Fin.done (Flow.ret v) ∧ Q v s') E s := by
  unfold Builtin.«zip.__next__»
  refine wpAny_bind (m := slotArgs "__next__" 0 _) (wpAny_pure ?_)
  refine wpAny_bind (wpAny_field zz rfl (x := .bool false) (i := 2) rfl ?_)
  refine wpAny_bind (wpAny_field zz rfl (x := .ref TI) (i := 3) rfl ?_)
  refine wpAny_bind (wpAny_seqItems ti rfl ?_)
  show wpAny _ _ (ite _ _ _) _ _ _
  rw [if_neg (show ¬ (#[Value.ref i1, Value.ref i2] : Array Value).isEmpty = true from Bool.false_ne_true)]
  unfold Builtin.SmallTypes.ownedTupleIsFree
  refine wpAny_bind (wpAny_bind (wpAny_field zz rfl (x := .none) (i := 0) rfl ?_))
  refine wpAny_pure ?_
  show wpAny _ _ (ite _ _ _) _ _ _
  rw [if_pos rfl]
  refine wpAny_bind (wpAny_rule ?_)
  refine wpAny_bind (wpAny_field zz rfl (x := .ref TO) (i := 4) rfl ?_)
  refine wpAny_bind (wpAny_setField_rec zz (show 0 < 5 by decide) fun h1 z1 sb1 => ?_)
  have z1' : h1.get? z = some { cls := .type "zip", data := .fields #[.ellipsis, .bool false, .bool false, .ref TI, .ref TO] } := z1
  have q11 : h1.IsTupleIter i1 t1 k := by obtain ⟨o, e, c, d⟩ := s1; exact ⟨o, by rw [sb1.2 _ ap.i1z]; exact e, c, d⟩
  have q12 : h1.IsTupleIter i2 t2 k := by obtain ⟨o, e, c, d⟩ := s2; exact ⟨o, by rw [sb1.2 _ ap.i2z]; exact e, c, d⟩
  have p11 : h1.IsTuple t1 xs := by obtain ⟨o, e, c⟩ := p1; exact ⟨o, by rw [sb1.2 _ ap.l1z]; exact e, c⟩
  have p12 : h1.IsTuple t2 ys := by obtain ⟨o, e, c⟩ := p2; exact ⟨o, by rw [sb1.2 _ ap.l2z]; exact e, c⟩
  have to1 : IsPair h1 TO a b := by show h1.get? TO = _; rw [sb1.2 _ ap.TOz]; exact to
  refine wpAny_bind ?_
  show wpAny _ _ (forIn [(Value.ref i1, 0), (Value.ref i2, 1)] _ _) _ _ _
  rw [List.forIn_cons]
  refine wpAny_bind (wpAny_bind (wpAny_onRaise ?_))
  show wpAny _ _ (ite _ _ (Builtin.SmallTypes.nextOf (.ref i1) >>= fun v => pure (some v))) _ _ _
  rw [if_neg (show ¬ (Value.bool false == Value.bool true) = true from Bool.false_ne_true)]
  refine wpAny_bind (nextOf_tup_item (s := { s with heap := h1 }) q11 p11 hx fun h2 q21 sb2 => wpAny_pure ?_)
  have to2 : IsPair h2 TO a b := by show h2.get? TO = _; rw [sb2.2 _ ap.TOi1]; exact to1
  refine wpAny_bind (wpAny_seqItems to2 rfl ?_)
  refine wpAny_bind (wpAny_updateSeq_pair to2 fun h3 to3 sb3 => ?_)
  have to3' : IsPair h3 TO x b := to3
  refine wpAny_bind (wpAny_letGo ?_)
  refine wpAny_pure ?_
  show wpAny _ _ (forIn [(Value.ref i2, 1)] _ _) _ _ _
  rw [List.forIn_cons]
  refine wpAny_bind (wpAny_bind (wpAny_onRaise ?_))
  show wpAny _ _ (ite _ _ (Builtin.SmallTypes.nextOf (.ref i2) >>= fun v => pure (some v))) _ _ _
  rw [if_neg (show ¬ (Value.bool false == Value.bool true) = true from Bool.false_ne_true)]
  have e3 : ∀ c, c ≠ i1 → c ≠ TO → h3.get? c = h1.get? c := fun c c1 c2 => by rw [sb3.2 _ c2]; exact sb2.2 _ c1
  have q32 : h3.IsTupleIter i2 t2 k := by obtain ⟨o, e, c, d⟩ := q12; exact ⟨o, by rw [e3 _ (Ne.symm ap.i12) (Ne.symm ap.TOi2)]; exact e, c, d⟩
  have p32 : h3.IsTuple t2 ys := by obtain ⟨o, e, c⟩ := p12; exact ⟨o, by rw [e3 _ ap.l2i1 ap.l2TO]; exact e, c⟩
  refine wpAny_bind (nextOf_tup_item (s := { s with heap := h3 }) q32 p32 hy fun h4 q42 sb4 => wpAny_pure ?_)
  have to4 : IsPair h4 TO x b := by show h4.get? TO = _; rw [sb4.2 _ ap.TOi2]; exact to3'
  refine wpAny_bind (wpAny_seqItems to4 rfl ?_)
  refine wpAny_bind (wpAny_updateSeq_pair to4 fun h5 to5 sb5 => ?_)
  have to5' : IsPair h5 TO x y := to5
  refine wpAny_bind (wpAny_letGo ?_)
  refine wpAny_pure ?_
  refine wpAny_pure ?_
  refine wpAny_bind (wpAny_seqItems to5' rfl ?_)
  refine wpAny_bind (wpAny_newTuple ?_)
  have sz : h5.objs.size = s.heap.objs.size := by rw [sb5.1, sb4.1, sb3.1, sb2.1, sb1.1]
  have e5 : ∀ c, c ≠ i1 → c ≠ TO → c ≠ i2 → h5.get? c = h1.get? c := fun c c1 c2 c3 => by rw [sb5.2 _ c2, sb4.2 _ c3]; exact e3 c c1 c2
  have z5 : (h5.push { cls := .type "tuple", data := .seq #[x, y] }).get? z = some { cls := .type "zip", data := .fields #[.ellipsis, .bool false, .bool false, .ref TI, .ref TO] } := Heap.get?_push_of_some _ (by rw [e5 _ (Ne.symm ap.i1z) (Ne.symm ap.TOz) (Ne.symm ap.i2z)]; exact z1')
  unfold Builtin.SmallTypes.ownedTupleHandOut
  refine wpAny_bind (wpAny_bind (wpAny_setField_rec z5 (show 0 < 5 by decide) fun h7 z7 sb7 => ?_))
  refine wpAny_setField_rec z7 (show 1 < 5 by decide) fun h8 z8 sb8 => ?_
  have e8 : ∀ c, c ≠ z → h8.get? c = (h5.push { cls := .type "tuple", data := .seq #[x, y] }).get? c := fun c hc => by rw [sb8.2 _ hc]; exact sb7.2 _ hc
  have q51 : h5.IsTupleIter i1 t1 (k + 1) := by obtain ⟨o, e, c, d⟩ := q21; exact ⟨o, by rw [sb5.2 _ (Ne.symm ap.TOi1), sb4.2 _ ap.i12, sb3.2 _ (Ne.symm ap.TOi1)]; exact e, c, d⟩
  have q52 : h5.IsTupleIter i2 t2 (k + 1) := by obtain ⟨o, e, c, d⟩ := q42; exact ⟨o, by rw [sb5.2 _ (Ne.symm ap.TOi2)]; exact e, c, d⟩
  have lz : z < h5.objs.size := by rw [sz]; exact Heap.lt_size zz
  have szp : (h5.push { cls := .type "tuple", data := .seq #[x, y] }).objs.size = s.heap.objs.size + 1 := by rw [size_push', sz]
  refine wpAny_pure ⟨_, rfl, ?_⟩
  show Q (.ref h5.objs.size) { s with heap := h8 }
  rw [sz]
  refine q h8 ?_ ?_ ?_ ?_ ?_ ?_ ?_
  · rw [← sz]; exact z8
  · show h8.get? TO = _
    rw [e8 _ ap.TOz]; exact Heap.get?_push_of_some _ to5'
  · obtain ⟨o, e, c, d⟩ := q51
    exact ⟨o, by rw [e8 _ ap.i1z]; exact Heap.get?_push_of_some _ e, c, d⟩
  · obtain ⟨o, e, c, d⟩ := q52
    exact ⟨o, by rw [e8 _ ap.i2z]; exact Heap.get?_push_of_some _ e, c, d⟩
  · show h8.get? s.heap.objs.size = _
    rw [← sz, e8 _ (Nat.ne_of_gt lz)]; exact Heap.get?_push_size _ rfl
  · rw [sb8.1, sb7.1]; exact szp
  · intro c o c1 c2 c3 c4 e
    rw [e8 _ c1]
    exact Heap.get?_push_of_some _ (by rw [e5 _ c3 c2 c4, sb1.2 _ c1]; exact e)
theorem sub_zip : isSubtype (.type "zip") (.type "zip") = pure true := by rw [isSubtype_type]; kernel_rfl
theorem call_zipT {t1 t2 : Addr} {xs ys : Array Value} {Q : Value → Shared → Prop} (p1 : s.heap.IsTuple t1 xs) (p2 : s.heap.IsTuple t2 ys)
    (q : ∀ h' : Heap, IsZip h' (s.heap.objs.size + 4) (s.heap.objs.size + 2) (s.heap.objs.size + 3) .none → IsPair h' (s.heap.objs.size + 2) (.ref s.heap.objs.size) (.ref (s.heap.objs.size + 1)) → IsPair h' (s.heap.objs.size + 3) .none .none → h'.IsTupleIter s.heap.objs.size t1 0 → h'.IsTupleIter (s.heap.objs.size + 1) t2 0 → h'.objs.size = s.heap.objs.size + 5 → (∀ c o, s.heap.get? c = some o → h'.get? c = some o) → Q (.ref (s.heap.objs.size + 4)) { s with heap := h' }) :
    wpAny (model P w) A (call (.type "zip") [.ref t1, .ref t2]) Q E s := by
  refine callType_newIn (S := fun _ R s' => s' = s ∧ ∀ s2 v, Shared.TypeIs s2 v "zip" ∧ Q v s2 → R (.ok (.ret v)) s2) F.called_zip (by decide) (F.typeCall_zip_2 _ _) (F.newCall_zip_2 _ _) (fun obj => F.args_object_init_3 _ _ _) F.entry_zip_new (fun A' R s' hS => ?_) ⟨rfl, fun s2 v h => h⟩
  obtain ⟨rfl, hR⟩ := hS
  unfold Builtin.«zip.__new__»
  refine wpAny_bind ?_
  show wpAny _ _ (Builtin.SmallTypes.newClass "zip" _) _ _ _
  unfold Builtin.SmallTypes.newClass
  refine wpAny_bind (wpAny_pure ?_)
  show wpAny _ _ (ite _ _ _) _ _ _
  rw [if_neg (by decide)]
  show wpAny _ _ (isSubtype (.type "zip") (.type "zip") >>= _) _ _ _
  rw [sub_zip]
  refine wpAny_bind (wpAny_pure ?_)
  show wpAny _ _ (ite _ _ _) _ _ _
  rw [if_neg (by decide)]
  refine wpAny_pure ?_
  show wpAny _ _ (ite (0 > 1) _ _) _ _ _
  rw [if_neg (by decide)]
  refine wpAny_bind ?_
  unfold Builtin.SmallTypes.iterAll
  refine wpAny_bind ?_
  rw [List.forIn_cons]
  refine wpAny_bind (wpAny_bind (wpAny_holding (wpAny_pyIter_tuple p1 (wpAny_pure ?_))))
  show wpAny _ _ (forIn [Value.ref t2] _ _) _ _ _
  have n1 : (s'.heap.push { cls := .type "tuple_iterator", data := .fields #[.ref t1, .int 0 0] }).objs.size = s'.heap.objs.size + 1 := size_push' ..
  have k1 : (s'.heap.push { cls := .type "tuple_iterator", data := .fields #[.ref t1, .int 0 0] }).get? s'.heap.objs.size = some { cls := .type "tuple_iterator", data := .fields #[.ref t1, .int 0 0] } := Heap.get?_push_size _ rfl
  have k0 : ∀ c o, s'.heap.get? c = some o → (s'.heap.push { cls := .type "tuple_iterator", data := .fields #[.ref t1, .int 0 0] }).get? c = some o := fun c o e => Heap.get?_push_of_some _ e
  generalize s'.heap.push { cls := .type "tuple_iterator", data := .fields #[.ref t1, .int 0 0] } = g1 at n1 k1 k0 ⊢
  rw [List.forIn_cons]
  have p2' : g1.IsTuple t2 ys := by
    obtain ⟨o, e, c⟩ := p2
    exact ⟨o, k0 _ _ e, c⟩
  refine wpAny_bind (wpAny_bind (wpAny_holding (wpAny_pyIter_tuple (s := { s' with heap := g1 }) p2' (wpAny_pure ?_))))
  refine wpAny_pure ?_
  refine wpAny_pure ?_
  show wpAny _ _ (newTuple [Value.ref s'.heap.objs.size, Value.ref g1.objs.size] >>= _) _ _ { s' with heap := g1.push { cls := .type "tuple_iterator", data := .fields #[.ref t2, .int 0 0] } }
  have n2 : (g1.push { cls := .type "tuple_iterator", data := .fields #[.ref t2, .int 0 0] }).objs.size = s'.heap.objs.size + 2 := by rw [size_push', n1]
  have k2 : (g1.push { cls := .type "tuple_iterator", data := .fields #[.ref t2, .int 0 0] }).get? (s'.heap.objs.size + 1) = some { cls := .type "tuple_iterator", data := .fields #[.ref t2, .int 0 0] } := by rw [← n1]; exact Heap.get?_push_size _ rfl
  have k12 : ∀ c o, g1.get? c = some o → (g1.push { cls := .type "tuple_iterator", data := .fields #[.ref t2, .int 0 0] }).get? c = some o := fun c o e => Heap.get?_push_of_some _ e
  generalize g1.push { cls := .type "tuple_iterator", data := .fields #[.ref t2, .int 0 0] } = g2 at n2 k2 k12 ⊢
  rw [n1]
  refine wpAny_bind (wpAny_newTuple (hsz := by show 2 ≤ sizeLine; decide) ?_)
  show wpAny _ _ _ _ _ { s' with heap := g2.push { cls := .type "tuple", data := .seq #[.ref s'.heap.objs.size, .ref (s'.heap.objs.size + 1)] } }
  have n3 : (g2.push { cls := .type "tuple", data := .seq #[.ref s'.heap.objs.size, .ref (s'.heap.objs.size + 1)] }).objs.size = s'.heap.objs.size + 3 := by rw [size_push', n2]
  have k3 : (g2.push { cls := .type "tuple", data := .seq #[.ref s'.heap.objs.size, .ref (s'.heap.objs.size + 1)] }).get? (s'.heap.objs.size + 2) = some { cls := .type "tuple", data := .seq #[.ref s'.heap.objs.size, .ref (s'.heap.objs.size + 1)] } := by rw [← n2]; exact Heap.get?_push_size _ rfl
  have k23 : ∀ c o, g2.get? c = some o → (g2.push { cls := .type "tuple", data := .seq #[.ref s'.heap.objs.size, .ref (s'.heap.objs.size + 1)] }).get? c = some o := fun c o e => Heap.get?_push_of_some _ e
  generalize g2.push { cls := .type "tuple", data := .seq #[.ref s'.heap.objs.size, .ref (s'.heap.objs.size + 1)] } = g3 at n3 k3 k23 ⊢
  rw [show Value.ref g2.objs.size = .ref (s'.heap.objs.size + 2) by rw [n2]]
  refine wpAny_bind (wpAny_newTuple (hsz := by show 2 ≤ sizeLine; decide) ?_)
  show wpAny _ _ _ _ _ { s' with heap := g3.push { cls := .type "tuple", data := .seq #[.none, .none] } }
  have n4 : (g3.push { cls := .type "tuple", data := .seq #[.none, .none] }).objs.size = s'.heap.objs.size + 4 := by rw [size_push', n3]
  have k4 : (g3.push { cls := .type "tuple", data := .seq #[.none, .none] }).get? (s'.heap.objs.size + 3) = some { cls := .type "tuple", data := .seq #[.none, .none] } := by rw [← n3]; exact Heap.get?_push_size _ rfl
  have k34 : ∀ c o, g3.get? c = some o → (g3.push { cls := .type "tuple", data := .seq #[.none, .none] }).get? c = some o := fun c o e => Heap.get?_push_of_some _ e
  generalize g3.push { cls := .type "tuple", data := .seq #[.none, .none] } = g4 at n4 k4 k34 ⊢
  rw [show Value.ref g3.objs.size = .ref (s'.heap.objs.size + 3) by rw [n3]]
  refine wpAny_bind ?_
  unfold Builtin.SmallTypes.newRecord Builtin.SmallTypes.ownedTupleFields
  show wpAny _ _ (newObj (.type "zip") (.fields #[.none, .bool false, .bool false, .ref (s'.heap.objs.size + 2), .ref (s'.heap.objs.size + 3)])) _ _ _
  refine wpAny_newObj_type ?_ (show 5 ≤ sizeLine + 2 by decide)
  refine wpAny_pure (hR _ _ ?_)
  have k5 : (g4.push { cls := .type "zip", data := .fields #[.none, .bool false, .bool false, .ref (s'.heap.objs.size + 2), .ref (s'.heap.objs.size + 3)] }).get? (s'.heap.objs.size + 4) = some { cls := .type "zip", data := .fields #[.none, .bool false, .bool false, .ref (s'.heap.objs.size + 2), .ref (s'.heap.objs.size + 3)] } := by rw [← n4]; exact Heap.get?_push_size _ rfl
  have n5 : (g4.push { cls := .type "zip", data := .fields #[.none, .bool false, .bool false, .ref (s'.heap.objs.size + 2), .ref (s'.heap.objs.size + 3)] }).objs.size = s'.heap.objs.size + 5 := by rw [size_push', n4]
  show Shared.TypeIs { s' with heap := g4.push { cls := .type "zip", data := .fields #[.none, .bool false, .bool false, .ref (s'.heap.objs.size + 2), .ref (s'.heap.objs.size + 3)] } } (.ref g4.objs.size) "zip" ∧ Q (.ref g4.objs.size) { s' with heap := g4.push { cls := .type "zip", data := .fields #[.none, .bool false, .bool false, .ref (s'.heap.objs.size + 2), .ref (s'.heap.objs.size + 3)] } }
  rw [n4]
  have up : ∀ c o, g1.get? c = some o → (g4.push { cls := .type "zip", data := .fields #[.none, .bool false, .bool false, .ref (s'.heap.objs.size + 2), .ref (s'.heap.objs.size + 3)] }).get? c = some o := fun c o e => Heap.get?_push_of_some _ (k34 _ _ (k23 _ _ (k12 _ _ e)))
  refine ⟨⟨_, k5, rfl⟩, q _ k5 (Heap.get?_push_of_some _ (k34 _ _ k3)) (Heap.get?_push_of_some _ k4) ⟨_, up _ _ k1, rfl, rfl⟩ ⟨_, Heap.get?_push_of_some _ (k34 _ _ (k23 _ _ k2)), rfl, rfl⟩ n5 fun c o e => up _ _ (k0 _ _ e)⟩
theorem zipT_item {z TI TO i1 i2 t1 t2 : Addr} {k : Nat} {xs ys : Array Value} {x y a b : Value} {Q : Option Value → Shared → Prop} (ap : ZipApart z TI TO i1 i2 t1 t2) (zz : IsZip s.heap z TI TO .none) (ti : IsPair s.heap TI (.ref i1) (.ref i2)) (to : IsPair s.heap TO a b)
    (s1 : s.heap.IsTupleIter i1 t1 k) (s2 : s.heap.IsTupleIter i2 t2 k) (p1 : s.heap.IsTuple t1 xs) (p2 : s.heap.IsTuple t2 ys) (hx : xs[k]? = some x) (hy : ys[k]? = some y)
    (q : ∀ h' : Heap, IsZip h' z TI TO (rawInt s.heap.objs.size) → IsPair h' TO x y → h'.IsTupleIter i1 t1 (k + 1) → h'.IsTupleIter i2 t2 (k + 1) → IsPair h' s.heap.objs.size x y → h'.objs.size = s.heap.objs.size + 1 → (∀ c o, c ≠ z → c ≠ TO → c ≠ i1 → c ≠ i2 → s.heap.get? c = some o → h'.get? c = some o) → Q (some (.ref s.heap.objs.size)) { s with heap := h' }) :
    wpAny (model P w) A (pyNext (.ref z)) Q E s := by
  have ty : s.TypeIs (.ref z) "zip" := ⟨_, zz, rfl⟩
  unfold pyNext
  refine wpAny_bind (wpAny_attempt (wpAny_callSpecial?_slotG ty F.slot_zip_next.toG ?_))
  exact wpAny_call_entry F.slot_zip_next ty F.entry_zip_next (zipT_next_item ap zz ti to s1 s2 p1 p2 hx hy fun h' a1 a2 a3 a4 a5 a6 a7 => wpAny_pure (q h' a1 a2 a3 a4 a5 a6 a7)) (F.args_zip_next_1 _)
theorem sub_stop : isSubtype (.type "StopIteration") (.type "StopIteration") = pure true := by rw [isSubtype_type]; kernel_rfl
theorem zipT_end {z TI TO i1 i2 t1 t2 : Addr} {k : Nat} {xs : Array Value} {a b : Value} {Q : Option Value → Shared → Prop} (hh : A.handled = none) (ap : ZipApart z TI TO i1 i2 t1 t2) (zz : IsZip s.heap z TI TO .none) (ti : IsPair s.heap TI (.ref i1) (.ref i2)) (to : IsPair s.heap TO a b)
    (s1 : s.heap.IsTupleIter i1 t1 k) (p1 : s.heap.IsTuple t1 xs) (hx : xs[k]? = none)
    (q : ∀ h' : Heap, (∀ c o, c ≠ z → c ≠ TO → c ≠ i1 → c ≠ i2 → s.heap.get? c = some o → h'.get? c = some o) → Q none { s with heap := h' }) :
    wpAny (model P w) A (pyNext (.ref z)) Q E s := by
  have ty : s.TypeIs (.ref z) "zip" := ⟨_, zz, rfl⟩
  unfold pyNext
  refine wpAny_bind (wpAny_attempt (wpAny_callSpecial?_slotG ty F.slot_zip_next.toG ?_))
  refine wpAny_call_entry F.slot_zip_next ty F.entry_zip_next ?_ (F.args_zip_next_1 _)
  unfold Builtin.«zip.__next__»
  refine wpAny_bind (m := slotArgs "__next__" 0 _) (wpAny_pure ?_)
  refine wpAny_bind (wpAny_field zz rfl (x := .bool false) (i := 2) rfl ?_)
  refine wpAny_bind (wpAny_field zz rfl (x := .ref TI) (i := 3) rfl ?_)
  refine wpAny_bind (wpAny_seqItems ti rfl ?_)
  show wpAny _ _ (ite _ _ _) _ _ _
  rw [if_neg (show ¬ (#[Value.ref i1, Value.ref i2] : Array Value).isEmpty = true from Bool.false_ne_true)]
  unfold Builtin.SmallTypes.ownedTupleIsFree
  refine wpAny_bind (wpAny_bind (wpAny_field zz rfl (x := .none) (i := 0) rfl ?_))
  refine wpAny_pure ?_
  show wpAny _ _ (ite _ _ _) _ _ _
  rw [if_pos rfl]
  refine wpAny_bind (wpAny_rule ?_)
  refine wpAny_bind (wpAny_field zz rfl (x := .ref TO) (i := 4) rfl ?_)
  refine wpAny_bind (wpAny_setField_rec zz (show 0 < 5 by decide) fun h1 z1 sb1 => ?_)
  have z1' : h1.get? z = some { cls := .type "zip", data := .fields #[.ellipsis, .bool false, .bool false, .ref TI, .ref TO] } := z1
  have q11 : h1.IsTupleIter i1 t1 k := by obtain ⟨o, e, c, d⟩ := s1; exact ⟨o, by rw [sb1.2 _ ap.i1z]; exact e, c, d⟩
  have p11 : h1.IsTuple t1 xs := by obtain ⟨o, e, c⟩ := p1; exact ⟨o, by rw [sb1.2 _ ap.l1z]; exact e, c⟩
  refine wpAny_bind ?_
  show wpAny _ _ (forIn [(Value.ref i1, 0), (Value.ref i2, 1)] _ _) _ _ _
  rw [List.forIn_cons]
  refine wpAny_bind (wpAny_bind (wpAny_onRaise ?_))
  show wpAny _ _ (ite _ _ (Builtin.SmallTypes.nextOf (.ref i1) >>= fun v => pure (some v))) _ _ _
  rw [if_neg (show ¬ (Value.bool false == Value.bool true) = true from Bool.false_ne_true)]
  refine wpAny_bind (nextOf_tup_end (s := { s with heap := h1 }) (by simpa using hh) q11 p11 hx fun h2 e xb ho => ?_)
  have z2 : h2.get? z = some { cls := .type "zip", data := .fields #[.ellipsis, .bool false, .bool false, .ref TI, .ref TO] } := xb _ _ (Ne.symm ap.i1z) z1'
  refine wpAny_setField_rec z2 (show 0 < 5 by decide) fun h3 z3 sb3 => ?_
  obtain ⟨o, e1, c1⟩ := ho
  have hez : e ≠ z := fun z' => by
    rw [z'] at e1
    rw [z2] at e1
    cases e1
    exact absurd (show Value.type "zip" = Value.type "StopIteration" from c1) (by decide)
  show wpAny _ _ (isInstance (.ref e) (.type "StopIteration") >>= _) _ _ _
  refine wpAny_bind (wpAny_isInstance (T := "StopIteration") (b := true) ⟨o, by show h3.get? e = _; rw [sb3.2 _ hez]; exact e1, c1⟩ sub_stop ?_)
  show wpAny _ _ (ite _ _ _) _ _ _
  rw [if_pos rfl]
  refine wpAny_pure (q h3 fun c o c1 c2 c3 c4 e => ?_)
  rw [sb3.2 _ c1]
  exact xb _ _ c3 (by rw [sb1.2 _ c1]; exact e)
end
def ItzT (K : PySem.W.Frag) (a b : Addr) : It :=
  ⟨fun i H => ∃ xs ys x y, SqT K H a xs ∧ SqT K H b ys ∧ xs[i]? = some x ∧ ys[i]? = some y,
   fun i H v H' => ∃ T x y, v = .ref T ∧ H T = none ∧ (∀ xs, SqT K H a xs → xs[i]? = some x) ∧ (∀ ys, SqT K H b ys → ys[i]? = some y) ∧ H' = upd H T (.tup [x, y]),
   fun i H => ∃ xs, SqT K H a xs ∧ xs.length ≤ i⟩
structure ZTurnT (a b z TI TO i1 i2 : Addr) (i : Nat) (h : Heap) : Prop where
  zz : IsZip h z TI TO .none
  ti : IsPair h TI (.ref i1) (.ref i2)
  to : ∃ p q, IsPair h TO p q
  s1 : h.IsTupleIter i1 a i
  s2 : h.IsTupleIter i2 b i
theorem turn_zipT {P : Program} {w : World} {K : PySem.W.Frag} {elts : List Expr} {k : Nat} {pos : Pos} (a b z TI TO i1 i2 : Addr) (ap : ZipApart z TI TO i1 i2 a b) : Turn P w K (.Tuple elts k pos) (ItzT K a b) [z, TI, TO, i1, i2] z (ZTurnT a b z TI TO i1 i2) where
  mem := by simp
  obj := fun i h st c hc => by
    obtain ⟨zz, ti, ⟨p, q, to⟩, ⟨o1, e1, c1, d1⟩, ⟨o2, e2, c2, d2⟩⟩ := st
    simp only [List.mem_cons, List.not_mem_nil, or_false] at hc
    rcases hc with rfl | rfl | rfl | rfl | rfl
    · exact ⟨_, zz, fun v z => by cases z⟩
    · exact ⟨_, ti, fun v z => by cases z⟩
    · exact ⟨_, to, fun v z => by cases z⟩
    · exact ⟨o1, e1, fun v z => by rw [d1] at z; cases z⟩
    · exact ⟨o2, e2, fun v z => by rw [d2] at z; cases z⟩
  keep := fun i h h' st k => by
    obtain ⟨zz, ti, ⟨p, q, to⟩, ⟨o1, e1, c1, d1⟩, ⟨o2, e2, c2, d2⟩⟩ := st
    exact ⟨k z (by simp) _ zz, k TI (by simp) _ ti, ⟨p, q, k TO (by simp) _ to⟩, ⟨o1, k i1 (by simp) o1 e1, c1, d1⟩, ⟨o2, k i2 (by simp) o2 e2, c2, d2⟩⟩
  item := by
    intro X hP hw hK hc i pins s σ H E I hf st hg
    subst hP hw hK
    obtain ⟨xs, ys, x, y, hq, hq2, hx, hy⟩ := hg
    obtain ⟨its, rv, p, hz⟩ := I.tuple hq
    obtain ⟨its2, rv2, p2, hz2⟩ := I.tuple hq2
    obtain ⟨u, hu, ru⟩ := rv.get hx
    obtain ⟨u2, hu2, ru2⟩ := rv2.get hy
    obtain ⟨zz, ti, ⟨pp, qq, to⟩, s1, s2⟩ := st
    have lz : z < s.heap.objs.size := Heap.lt_size zz
    refine zipT_item ap zz ti to s1 s2 (show s.heap.IsTuple a its.toArray from p) (show s.heap.IsTuple b its2.toArray from p2) (x := u) (y := u2) (by simpa using hu) (by simpa using hu2) fun h' zo to' s1' s2' ht hsz kp => ?_
    refine ⟨_, rfl, wpAny_letOwnedTupleGo_zip zo fun h2 zz2 sb => ?_⟩
    have I1 : Inv X pins σ H { s with heap := h2 } := I.turnedL (t' := s.toks) (ch := [z, TI, TO, i1, i2]) hf fun c o hc q => by
      simp only [List.mem_cons, List.not_mem_nil, or_false, not_or] at hc
      exact (sb.2 c hc.1).trans (kp c o hc.1 hc.2.2.1 hc.2.2.2.1 hc.2.2.2.2 q)
    have hT : h2.get? s.heap.objs.size = some { cls := .type "tuple", data := .seq #[u, u2] } := (sb.2 _ (Nat.ne_of_gt lz)).trans ht
    have hfr : H s.heap.objs.size = none := I.hok.fresh (Nat.le_refl _)
    have I2 := I1.adopt (o := .tup [x, y]) (I.fpOk (Nat.le_refl _) hfr) ⟨(by show 2 ≤ sizeLine; decide), [u, u2], .cons ru (.cons ru2 .nil), ⟨_, hT, rfl, _, rfl⟩⟩
    have hti : IsPair h2 TI (.ref i1) (.ref i2) := (sb.2 TI ap.TIz).trans (kp TI _ ap.TIz ap.TITO ap.TIi1 ap.TIi2 ti)
    refine ⟨.ref s.heap.objs.size, _, I2, rfl, ⟨_, x, y, rfl, hfr, (fun zs hzs => by rw [I.tuple_inj hzs hq]; exact hx), (fun zs hzs => by rw [I.tuple_inj hzs hq2]; exact hy), rfl⟩, ?_, fun c hc => ?_⟩
    · obtain ⟨o1, e1, c1, d1⟩ := s1'
      obtain ⟨o2, e2, c2, d2⟩ := s2'
      exact ⟨zz2, hti, ⟨u, u2, (sb.2 TO ap.TOz).trans to'⟩, ⟨o1, (sb.2 i1 ap.i1z).trans e1, c1, d1⟩, ⟨o2, (sb.2 i2 ap.i2z).trans e2, c2, d2⟩⟩
    rw [upd_ne (fun e => ?_)]
    · exact (hf c hc).1
    · subst e
      obtain ⟨o1, e1, _⟩ := s1
      obtain ⟨o2, e2, _⟩ := s2
      simp only [List.mem_cons, List.not_mem_nil, or_false] at hc
      rcases hc with h | h | h | h | h
      · exact absurd h (Nat.ne_of_gt lz)
      · exact absurd h (Nat.ne_of_gt (Heap.lt_size ti))
      · exact absurd h (Nat.ne_of_gt (Heap.lt_size to))
      · exact absurd h (Nat.ne_of_gt (Heap.lt_size e1))
      · exact absurd h (Nat.ne_of_gt (Heap.lt_size e2))
  done := by
    intro X hP hw hK hc i pins s σ H E I hf st hg
    subst hP hw hK
    obtain ⟨xs, hq, hx⟩ := hg
    obtain ⟨its, rv, p, hz⟩ := I.tuple hq
    have hl := rv.length
    obtain ⟨zz, ti, ⟨pp, qq, to⟩, s1, s2⟩ := st
    refine zipT_end (I.ok.hd hc) ap zz ti to s1 (show s.heap.IsTuple a its.toArray from p) ?_ fun h' kp => ⟨rfl, ?_⟩
    · simp; (clear hc hf hz; omega)
    · exact I.turnedL (t' := s.toks) (ch := [z, TI, TO, i1, i2]) hf fun c o hc q => by
        simp only [List.mem_cons, List.not_mem_nil, or_false, not_or] at hc
        exact kp c o hc.1 hc.2.2.1 hc.2.2.2.1 hc.2.2.2.2 q
  self := fun _ _ _ _ _ st h => wpAny_pyIter_zip st.zz h
def iZipT (K : PySem.W.Frag) (ta : TA) : TI := fun σ H R => ta σ H fun vs H1 => ∃ a b, vs = [.ref a, .ref b] ∧ (∃ xs, SqT K H1 a xs) ∧ (∃ ys, SqT K H1 b ys) ∧ R (ItzT K a b) H1
theorem pi_zipT {X : Cx} {K : PySem.W.Frag} {elts : List Expr} {k : Nat} {tpos : Pos} {l l2 : Expr} {ta : TA} {p pos : Pos} (hK : X.K = K) (hg : Gl X "zip") (hm : X.mg "zip" = none) (ha : PA X [l, l2] ta) (hs : starEach [l, l2] X.env = (false, eval l X.env) :: starEach [l2] X.env := by rfl)
    (hs2 : (backTo pos (starEach [l2] X.env)).any (·.1) = false := by rfl) :
    PI X (.Tuple elts k tpos) (.Call (.Name "zip" p) [l, l2] [] pos) (iZipT K ta) := by
  subst hK
  intro pins s σ H R I h
  refine Call_ (ld_blt I hg hm PyProof.Rows.boot_zip (PyProof.Rows.callWith_type1 (thn (ha pos pins s σ H _ I h) fun us s1 hm0 => ?_) hs hs2))
  obtain ⟨vs, H1, I1, r1, q1⟩ := hm0
  obtain ⟨a, b, rfl, ⟨xs, hq⟩, ⟨ys, hq2⟩, q⟩ := q1
  cases r1 with
  | cons ra rr =>
    cases ra
    obtain ⟨u, rfl, ru⟩ := vals1 rr
    cases ru
    obtain ⟨its, rv, p, hz⟩ := I1.tuple hq
    obtain ⟨its2, rv2, p2, hz2⟩ := I1.tuple hq2
    have la : a < s1.heap.objs.size := by obtain ⟨o, e, _⟩ := p; exact Heap.lt_size e
    have lb : b < s1.heap.objs.size := by obtain ⟨o, e, _⟩ := p2; exact Heap.lt_size e
    refine call_zipT (show s1.heap.IsTuple a its.toArray from p) (show s1.heap.IsTuple b its2.toArray from p2) fun h' zz ti to i1 i2 hsz kp => ?_
    refine wpAny_pyIter_zip zz ?_
    refine ⟨s1.heap.objs.size + 4, [s1.heap.objs.size + 4, s1.heap.objs.size + 2, s1.heap.objs.size + 3, s1.heap.objs.size, s1.heap.objs.size + 1], _, _, H1, rfl, I1.kept (t' := s1.toks) kp, turn_zipT a b _ _ _ _ _ (zip_apart _ a b la lb), ⟨zz, ti, ⟨_, _, to⟩, i1, i2⟩, fun c hc => ?_, q⟩
    have hc' : s1.heap.objs.size ≤ c := by
      simp only [List.mem_cons, List.not_mem_nil, or_false] at hc
      rcases hc with rfl | rfl | rfl | rfl | rfl
      · exact Nat.le_add_right _ _
      · exact Nat.le_add_right _ _
      · exact Nat.le_add_right _ _
      · exact Nat.le_refl _
      · exact Nat.le_add_right _ _
    exact I1.fpOk hc' (I1.hok.fresh hc')
theorem for_zipT {K : PySem.W.Frag} {a b : Addr} {xs ys : List V} {g : TG} {tb : TS} {D : Ends} {σ : St} {H : Hp} (hlen : xs.length = ys.length) (Pv : Nat → St → Hp → Prop) (h0 : Pv 0 σ H) (hl : ∀ i σ H, i ≤ xs.length → Pv i σ H → SqT K H a xs ∧ SqT K H b ys)
    (hs : ∀ i x y σ H T, xs[i]? = some x → ys[i]? = some y → Pv i σ H → H T = none → g (.ref T) σ (upd H T (.tup [x, y])) fun σ2 H2 => tb { D with nx := Pv (i + 1), ct := Pv (i + 1), bk := D.nx } σ2 H2) (hd : ∀ σ H, Pv xs.length σ H → D.nx σ H) :
    ∃ W : Nat → Nat → St → Hp → Prop, (∃ m, W 0 m σ H) ∧ ∀ i m σ H, W i m σ H →
      ((ItzT K a b).stop i H ∧ D.nx σ H) ∨ ((ItzT K a b).go i H ∧ ∃ N : St → Hp → Prop, (∀ σ' H', N σ' H' → ∃ m', m' < m ∧ W (i + 1) m' σ' H') ∧ ∀ x H', (ItzT K a b).yld i H x H' → g x σ H' fun σ2 H2 => tb { D with nx := N, ct := N, bk := D.nx } σ2 H2) := by
  refine ⟨fun i m σ H => m = xs.length - i ∧ i ≤ xs.length ∧ Pv i σ H, ⟨xs.length, by simp, Nat.zero_le _, h0⟩, ?_⟩
  rintro i m σ H ⟨rfl, hi, p⟩
  obtain ⟨q1, q2⟩ := hl i σ H hi p
  by_cases hlt : i < xs.length
  · refine .inr ⟨⟨xs, ys, xs[i], ys[i]'(by omega), q1, q2, by simp, by simp⟩, Pv (i + 1), fun σ' H' p' => ⟨xs.length - (i + 1), by omega, rfl, hlt, p'⟩, fun v H' y => ?_⟩
    obtain ⟨T, x, y, rfl, hT, hx, hy, rfl⟩ := y
    exact hs i x y σ H T (hx _ q1) (hy _ q2) p hT
  · have e : i = xs.length := by omega
    subst e
    exact .inl ⟨⟨xs, q1, Nat.le_refl _⟩, hd σ H p⟩
end L2
set_option Elab.async false
set_option linter.all false
set_option maxRecDepth 100000
set_option maxHeartbeats 4000000
namespace L2
open PySem PySem.Spec PyProof.Rows
section
variable {X : Cx} {K : PySem.W.Frag}
theorem slT (hK : X.K = K) : SlR X (rSlT K) := by subst hK; exact sl_tup
theorem mtJoin (hK : X.K = K) : MtM X "str.join" (rJoin K) := by subst hK; exact mt_join
theorem pe_bmJ {o e : Expr} {es : List Expr} {to : TE} {t : TA} {name : Str} {apos cpos : Pos} {T id : String} {r : V → List V → Hp → VK → Prop} (hK : X.K = K) (pa : PlainAttrs T) (slot : Slot T name id) (hty : typeOf (.builtin id) = pure (.type "method_descriptor")) (hm : MtM X id r) (ho : PE X o to) (ha : PA X (e :: es) t)
    (hbase : attributeBase o name X.env (eval o X.env) = eval o X.env := by rfl)
    (hfew : ((backTo cpos (starEach (e :: es) X.env)).all (fun x => !x.1) && (backToKw cpos (keywordEach [] X.env)).all (fun x => x.1.isSome)
      && decide ((e :: es).length + ([] : List Keyword).length + (if ([] : List Keyword).isEmpty then 0 else 1) < 30)) = true := by rfl)
    (hline : (apos.endLine == cpos.line) = true := by rfl) (hs : starEach (e :: es) X.env = (false, eval e X.env) :: starEach es X.env := by rfl) (hplain : (backTo cpos (starEach es X.env)).any (·.1) = false := by rfl) :
    PE X (.Call (.Attribute o name apos) (e :: es) [] cpos) (tBM K T r to t) := by subst hK; exact pe_bm pa slot hty hm ho ha hbase hfew hline hs hplain
end
def txtsOf : List Value → Option (List Str)
  | [] => some []
  | .str x _ :: r => (txtsOf r).map (x :: ·)
  | _ :: _ => none
def tupOf (K : PySem.W.Frag) (a : Addr) : Option (List Str) :=
  match K.lookup a with
  | some ⟨.type "tuple", _, .seq its _, _⟩ => if its.size ≤ 64 then txtsOf its.toList else none
  | _ => none
theorem txts_vals : ∀ {us : List Value} {xs : List Str}, txtsOf us = some xs → Vals (xs.map V.str) us
  | [], xs, h => by cases h; exact .nil
  | u :: r, xs, h => by
    cases u with
    | str x t =>
      unfold txtsOf at h
      cases e : txtsOf r with
      | none => rw [e] at h; cases h
      | some ys =>
        rw [e] at h
        cases h
        exact .cons ⟨t, rfl⟩ (txts_vals e)
    | _ => cases h
theorem tup_at {K : PySem.W.Frag} {H : Hp} {a : Addr} {xs : List Str} (h : tupOf K a = some xs) : SqT K H a (xs.map V.str) := by
  unfold tupOf at h
  split at h
  · rename_i dd its n sl hl
    split at h
    · rename_i h64
      exact .inr ⟨_, its, _, hl, rfl, rfl, Nat.le_trans h64 (by decide), txts_vals h⟩
    · cases h
  · cases h
def KTupAt (K : PySem.W.Frag) (mg : Str → Option Value) (x : Str) (xs : List Str) : Prop := ∃ d, mg x = some (.ref d) ∧ tupOf K d = some xs
def tGTup (K : PySem.W.Frag) (xs : List Str) : TE := fun _ H Q => ∀ a, (∀ H', SqT K H' a (xs.map V.str)) → Q (.ref a) H
theorem pe_gtup {X : Cx} {K : PySem.W.Frag} {x : Str} {xs : List Str} {pos : Pos} (hm : KTupAt K X.mg x xs) (hg : Gl X x := by rfl) (hd : (x == ("__debug__" : Str)) = false := by decide) : PE X (.Name x pos) (tGTup K xs) := by
  obtain ⟨d, hm, ht⟩ := hm
  intro pins s σ H Q I h
  exact pe_glob (v := .ref d) hg hm rfl hd pins s σ H Q I (h d fun H' => tup_at ht)
def entsOf (K : PySem.W.Frag) : List DictEntry → Option (List (Int × Str × List Str))
  | [] => some []
  | ⟨hs, .str x _, .ref a⟩ :: r =>
    match tupOf K a, entsOf K r with
    | some ks, some l => some ((hs, x, ks) :: l)
    | _, _ => none
  | _ :: _ => none
def tabOf (K : PySem.W.Frag) (a : Addr) : Option (List (Int × Str × List Str)) :=
  match K.lookup a with
  | some o => if ((o.cls == .type "dict") && o.dict.isNone && o.slots.isEmpty) = true then (match o.data with
    | .dict es _ => if es.size ≤ 64 then entsOf K es.toList else none
    | _ => none) else none
  | none => none
theorem ents_are {P : Program} {w : World} {K : PySem.W.Frag} : ∀ {es : List DictEntry} {l : List (Int × Str × List Str)}, entsOf K es = some l → (∀ p ∈ l, p.1 = hashStr w p.2.1) →
    ∃ kvs : List (Key × Value), Pairs (mixKind P w) es kvs ∧ (∀ e ∈ es, ∃ k, (mixKind P w).is k e.key = true ∧ e.hash = (mixKind P w).hash k) ∧ kvs.map (·.1) = l.map (fun p => (.inr p.2.1 : Key)) ∧ ∀ (i : Nat) (p : Int × Str × List Str), l[i]? = some p → ∃ a, kvs[i]? = some (.inr p.2.1, .ref a) ∧ tupOf K a = some p.2.2
  | [], l, h, _ => by
    cases h
    exact ⟨[], .nil, (fun _ z => by cases z), rfl, fun i p z => by simp at z⟩
  | ⟨hs, k, v⟩ :: r, l, h, hh => by
    cases k with
    | str x t =>
      cases v with
      | ref a =>
        unfold entsOf at h
        cases e1 : tupOf K a with
        | none => rw [e1] at h; cases h
        | some ks =>
          cases e2 : entsOf K r with
          | none => rw [e1, e2] at h; cases h
          | some l2 =>
            rw [e1, e2] at h
            cases h
            obtain ⟨kvs, p1, p2, p3, p4⟩ := ents_are (P := P) (w := w) e2 fun p hp => hh p (List.mem_cons_of_mem _ hp)
            have hx : hs = hashStr w x := hh _ List.mem_cons_self
            refine ⟨(.inr x, .ref a) :: kvs, .cons (mixKind_str P w x t) rfl p1, fun e he => ?_, by rw [List.map_cons, List.map_cons, p3], fun i p hp => ?_⟩
            · rcases List.mem_cons.mp he with rfl | he
              · exact ⟨.inr x, mixKind_str P w x t, hx⟩
              · exact p2 e he
            · cases i with
              | zero => cases hp; exact ⟨a, rfl, e1⟩
              | succ i => exact p4 i p hp
      | _ => cases h
    | _ => cases h
def KTabAt (w : World) (K : PySem.W.Frag) (mg : Str → Option Value) (x : Str) (tab : List (Str × List Str)) : Prop := ∃ d, mg x = some (.ref d) ∧ (d == sysModules) = false ∧ tabOf K d = some (tab.map fun p => (hashStr w p.1, p.1, p.2))
theorem nodup_keys {tab : List (Str × List Str)} (h : (tab.map (·.1)).Nodup) : (tab.map fun p => (.inr p.1 : Key)).Nodup := by
  have : tab.map (fun p => (.inr p.1 : Key)) = (tab.map (·.1)).map Sum.inr := by rw [List.map_map]; rfl
  rw [this]
  exact h.map _ fun x y h z => h (Sum.inr.inj z)
theorem tab_at {P : Program} {w : World} {K : PySem.W.Frag} {d : Addr} {tab : List (Str × List Str)} (hd : (d == sysModules) = false) (h : tabOf K d = some (tab.map fun p => (hashStr w p.1, p.1, p.2))) (nd : (tab.map (·.1)).Nodup) :
    ∃ kvs : List (Key × V), KDict P w K d kvs ∧ kvs.map (·.1) = tab.map (fun p => (.inr p.1 : Key)) ∧ ∀ (i : Nat) (p : Str × List Str), tab[i]? = some p → ∃ a, kvs[i]? = some (.inr p.1, .ref a) ∧ ∀ H', SqT K H' a (p.2.map V.str) := by
  unfold tabOf at h
  cases hl : K.lookup d with
  | none => rw [hl] at h; cases h
  | some o =>
    rw [hl] at h
    simp only at h
    split at h
    case isFalse => cases h
    rename_i hc
    rw [Bool.and_eq_true, Bool.and_eq_true] at hc
    obtain ⟨⟨c1, c2⟩, c3⟩ := hc
    split at h
    case h_2 => cases h
    rename_i es ep hdat
    split at h
    · obtain ⟨kvs, p1, p2, p3, p4⟩ := ents_are (P := P) (w := w) h fun p hp => by
        obtain ⟨q, _, rfl⟩ := List.mem_map.mp hp
        rfl
      rw [List.map_map] at p3
      have p3' : kvs.map (·.1) = tab.map (fun p => (.inr p.1 : Key)) := p3
      have hv : ∀ kv ∈ kvs, ∃ a, kv.2 = .ref a := fun kv hkv => by
        obtain ⟨i, hi⟩ := List.getElem?_of_mem hkv
        have hlen : i < tab.length := by
          have h1 := (List.getElem?_eq_some_iff.mp hi).1
          have h2 := congrArg List.length p3'
          rw [List.length_map, List.length_map] at h2
          omega
        obtain ⟨a, ha, _⟩ := p4 i (hashStr w tab[i].1, tab[i].1, tab[i].2) (by rw [List.getElem?_map, List.getElem?_eq_getElem hlen]; rfl)
        rw [hi] at ha
        cases ha
        exact ⟨a, rfl⟩
      refine ⟨kvs.map fun kv => (kv.1, match kv.2 with | .ref a => V.ref a | _ => V.non), ⟨hd, kvs, ?_, fun hp KI => ?_⟩, ?_, fun i p hp => ?_⟩
      · clear p1 p2 p3 p3' p4
        induction kvs with
        | nil => exact .nil
        | cons kv r ih =>
          refine .cons ⟨rfl, ?_⟩ (ih fun q hq => hv q (List.mem_cons_of_mem _ hq))
          obtain ⟨a, ha⟩ := hv kv List.mem_cons_self
          show RelV (match kv.2 with | .ref a => V.ref a | _ => V.non) kv.2
          rw [ha]; rfl
      · exact ⟨o, es, ep, KI d o hl, ⟨eq_of_beq c1, Option.isNone_iff_eq_none.mp c2, Array.isEmpty_iff.mp c3⟩, hdat, (fun e he => p2 e (by simpa using he)), p1, by rw [p3']; exact nodup_keys nd⟩
      · rw [List.map_map]; exact p3'
      · obtain ⟨a, ha, ht⟩ := p4 i (hashStr w p.1, p.1, p.2) (by rw [List.getElem?_map, hp]; rfl)
        refine ⟨a, by rw [List.getElem?_map, ha]; rfl, fun H' => tup_at ht⟩
    · cases h
theorem keys_find {tab : List (Str × List Str)} {kvs : List (Key × V)} (nd : (tab.map (·.1)).Nodup) (hk : kvs.map (·.1) = tab.map (fun p => (.inr p.1 : Key))) {i : Nat} {k : Key} {v : V} (h : kvs[i]? = some (k, v)) : valV kvs k = some v := by
  have nd2 : (kvs.map (·.1)).Nodup := by rw [hk]; exact nodup_keys nd
  clear hk
  unfold valV
  induction kvs generalizing i with
  | nil => cases h
  | cons kv r ih =>
    rw [List.map_cons, List.nodup_cons] at nd2
    cases i with
    | zero =>
      cases h
      rw [List.find?_cons_of_pos (by simp)]; rfl
    | succ i =>
      have h' : r[i]? = some (k, v) := h
      have hne : kv.1 ≠ k := fun e => nd2.1 (by rw [e]; exact List.mem_map.mpr ⟨_, List.mem_of_getElem? h', rfl⟩)
      rw [List.find?_cons_of_neg (by simp [hne])]
      exact ih h' nd2.2
end L2
set_option Elab.async false
set_option linter.all false
set_option maxRecDepth 100000
set_option maxHeartbeats 4000000
namespace L2
open PySem PySem.Spec PyProof.Rows
end L2
set_option Elab.async false
set_option linter.all false
set_option maxRecDepth 100000
set_option maxHeartbeats 1000000
namespace L2
open PySem PySem.Spec PyProof.Rows
section
variable {M : Model} {A : Around} {E : Value → Shared → Prop} {s : Shared} {B : Heap} {env : Env} {outer : List Env} {l : List Env} {L e : Addr} {cls a0 fl : Value}
theorem flight_any {o : Option Addr} {Q : Unit → Shared → Prop} (hkb : B.StaysIn s.heap) (hl : s.heap.FunFrames B l) (ht : s.heap.TracedAtW B e cls a0 fl)
    (h : ∀ h', B.StaysIn h' → h'.FunFrames B l → h'.TracedAtW B e cls a0 (o.elim Value.none fun f => rawInt f) → s.heap.UpToSlots h' → Q () { s with heap := h' }) : wpAny M A (setFlight (.ref e) o) Q E s := by
  obtain ⟨oe, vs, T, oT, ts, he, hc, hd, h1, hnT, hTe, hT, hdT, h3⟩ := ht
  have sz : 3 < ts.size := (Array.getElem?_eq_some_iff.mp h3).1
  have away : ∀ b, b ≠ T → ∀ g, (s.heap.update T g).get? b = s.heap.get? b := fun b hb g => Heap.get?_update_other _ _ (Ne.symm hb)
  have rcd : ∀ b o, s.heap.get? b = some o → (∀ vs, o.data ≠ .fields vs) → b ≠ T := fun b o hb hn q => by
    subst q; rw [hT] at hb; cases hb; exact hn ts hdT
  unfold setFlight
  refine wpAny_bind (wpAny_field he hd h1 ?_)
  rw [if_pos (by simp)]
  refine wpAny_setField hT hdT sz (h _ (fun b o hb => ?_) (hl.of_keeps fun b o hb hn => ⟨o, (away b (rcd b o hb hn) _).trans hb, rfl⟩) ?_ fun b o hb hn => ⟨o.slots, (away b (rcd b o hb hn) _).trans hb⟩)
  · exact (away b (fun q => by rw [q, hnT] at hb; cases hb) _).trans (hkb b o hb)
  · exact ⟨oe, vs, T, _, _, (away e (Ne.symm hTe) _).trans he, hc, hd, h1, hnT, hTe, Heap.get?_update_self _ hT (Obj.isFreed_of_fields (Obj.data_mapFields hdT _)), Obj.data_mapFields hdT _, by simp [sz]⟩
theorem leaves_any {Q : Unit → Shared → Prop} (hfr : A.frames = some (env :: outer)) (hf : env.frame = some L) (hkb : B.StaysIn s.heap) (hen : B.get? e = none) (hl : s.heap.FunFrames B (env :: outer)) (ht : s.heap.TracedAtW B e cls a0 fl)
    (hQ : ∀ h', Heap.FlyingW B outer e cls a0 h' → s.heap.UpToSlots h' → Q () { s with heap := h' }) : wpAny M A (leaving env (.ref e)) Q E s := by
  by_cases hq : fl = rawInt L
  · subst hq
    unfold leaving
    refine wpAny_bind (wpAny_noteFrame_againW hf ht (wpAny_landsW ⟨hkb, hen, hl, ht⟩ fun h' x u => hQ h' ?_ u))
    obtain ⟨k1, k2, ⟨_, _, k3⟩, k4⟩ := x
    exact ⟨k1, k2, k3, k4⟩
  · -- the mark is taken off first: from there on as if there had been none
    refine wpAny_mono (Q := Q) (E := E) ?_ (fun _ _ q => q) fun _ _ q => q
    obtain ⟨oe, vs, T, oT, ts, he, ⟨hc, h0⟩, hd, h1, hnT, hTe, hT, hdT, h3⟩ := ht
    subst hc
    have away : ∀ b, b ≠ T → ∀ g, (s.heap.update T g).get? b = s.heap.get? b := fun b hb g => Heap.get?_update_other _ _ (Ne.symm hb)
    have rcd : ∀ b o, s.heap.get? b = some o → (∀ vs, o.data ≠ .fields vs) → b ≠ T := fun b o hb hn q => by
      subst q; rw [hT] at hb; cases hb; exact hn ts hdT
    unfold leaving noteFrame
    simp only [hf]
    refine wpAny_bind (wpAny_bind (wpAny_field he hd h1 ?_))
    rw [if_pos (by simp)]
    refine wpAny_bind (wpAny_field hT hdT h3 ?_)
    rw [if_neg (by simpa using hq)]
    refine wpAny_bind (wpAny_setField hT hdT (Array.getElem?_eq_some_iff.mp h3).1 ?_)
    refine wpAny_newEntryW hfr (hl.of_keeps fun b o hb hn => ⟨o, (away b (rcd b o hb hn) _).trans hb, rfl⟩) hf ((away e (Ne.symm hTe) _).trans he)
      (fun b o hb => (away b (fun q => by rw [q, hnT] at hb; cases hb) _).trans (hkb b o hb)) hen hd (Array.getElem?_eq_some_iff.mp h1).1 h0 fun h' x => ?_
    obtain ⟨x1, ⟨_, _, x2⟩, x3, x4⟩ := x
    exact hQ h' ⟨x1, hen, x2, x3⟩ fun b o hb hn => x4 b o ((away b (rcd b o hb hn) _).trans hb) hn
theorem pass_any {α : Type} {what : String} {Q : α → Shared → Prop} {cenv : Env} (hkb : B.StaysIn s.heap) (hl : s.heap.FunFrames B l) (ht : s.heap.TracedAtW B e cls a0 fl)
    (h : ∀ h' fl', B.StaysIn h' → h'.FunFrames B l → h'.TracedAtW B e cls a0 fl' → s.heap.UpToSlots h' → E (.ref e) { s with heap := h' }) : wpAny M A (PySem.passOn what (.ref e) cenv : Sem α) Q E s := by
  obtain ⟨oe, vs, T, oT, ts, he, hc, hd, h1, r⟩ := ht
  unfold PySem.passOn
  refine wpAny_bind (wpAny_field he hd h1 ?_)
  rw [if_neg (by simp)]
  refine wpAny_bind (flight_any hkb hl ⟨oe, vs, T, oT, ts, he, hc, hd, h1, r⟩ fun h' k1 k2 k3 k4 => wpAny_throw (h h' _ k1 k2 k3 k4))
end
theorem comp_loopX {prog : Program} {w : World} {A : Around} {R : Result → Shared → Prop} {s : Shared} {elt target iter : Expr} {ifs : List Expr} {scope : Scope} {pos : Pos} {it acc : Value} {env : Env} (I : Nat → Shared → Prop) (X : Value → Shared → Prop)
    (hX : ∀ x s, X x s → notedBy (model prog w) A env (fun x s' => R (.error x) s') x s)
    (turn : ∀ n s, I n s → wpAny (model prog w) A (pyNext it) (fun r s₁ => match r with
      | none => R (.ok .next) s₁
      | some v => wpAny (model prog w) A (letOwnedTupleGo target it v) (fun _ s₁' => wpAny (model prog w) A (assign target env v) (fun _ s₂ =>
          wpAny (model prog w) A (forIn ifs true fun c r => if r = true then do let ok ← isTrue c env (eval c env); pure (ForInStep.yield ok) else pure (ForInStep.yield r)) (fun ok s₃ =>
            if ok = true then wpAny (model prog w) A (eval elt env) (fun x s₄ =>
              wpAny (model prog w) A (call (.builtin "list.append") [acc, x]) (fun _ s₅ => ∃ m, m < n ∧ I m s₅) (fun _ _ => False) s₄) X s₃
            else ∃ m, m < n ∧ I m s₃) X s₂) X s₁') X s₁) X s)
    (n : Nat) (h : I n s) :
    codeAny (model prog w) A (.compLoop (.ListComp elt [⟨target, iter, ifs, 0⟩] scope pos) 0 it acc env) R s := by
  refine codeAny_loop rfl I (fun n s hI => ?_) n h
  show wpAny _ A ((compTurn (.ListComp elt [⟨target, iter, ifs, 0⟩] scope pos) 0 it acc env).onRaise (fun x => do noteFrame x env; theTreesLotGoes x)) _ _ s
  refine wpAny_noted ?_
  rw [compTurn_list]
  refine wpAny_bind (wpAny_standAt (wpAny_bind (wpAny_mono (turn n s hI) (fun r s₁ h₁ => ?_) fun x s' h' => hX x s' h')))
  cases r with
  | none => exact wpAny_pure h₁
  | some v =>
    refine wpAny_bind (wpAny_mono h₁ (fun _ s₁' h₁' => ?_) fun x s' h' => hX x s' h')
    refine wpAny_bind (wpAny_mono h₁' (fun _ s₂ h₂ => wpAny_bind (wpAny_mono h₂ (fun ok s₃ h₃ => ?_) fun x s' h' => hX x s' h')) fun x s' h' => hX x s' h')
    cases ok with
    | false => exact wpAny_pure ⟨rfl, h₃⟩
    | true =>
      exact wpAny_bind (wpAny_bind (wpAny_mono h₃ (fun x s₄ h₄ => wpAny_bind (wpAny_mono h₄ (fun _ s₅ h₅ => wpAny_pure (wpAny_pure ⟨rfl, h₅⟩)) fun _ _ h' => h'.elim)) fun x s' h' => hX x s' h'))
end L2
set_option Elab.async false
set_option linter.all false
set_option maxRecDepth 100000
set_option maxHeartbeats 1000000
namespace L2
open PySem PySem.Spec PyProof.Rows
section
variable {X : Cx} {pins : List (Addr × Obj)} {σ : St} {H : Hp} {s : Shared}
theorem leaves_onC {M : Model} {E2 : Value → Shared → Prop} {ea C t : Addr} {s' : Shared} {E : XK} {H' : Hp} {B : Heap} {fl : Value} (ch : List Addr) (hch : ∀ b ∈ ch, X.s₀.heap.objs.size ≤ b) (I : Inv X pins σ H s) (hst : X.stack = X.env :: X.outer) (hf : X.env.frame = some X.env.locals) (hex : X.ex = [])
    (os : s'.os = s.os) (bare : AllBare s'.gens) (un : Un (frs X.stack) ch H H' s.heap s'.heap) (hok : HOk X.prog X.w H' s'.heap) (hkb : B.StaysIn s'.heap) (hen : B.get? ea = none) (hl : s'.heap.FunFrames B X.stack) (ht : s'.heap.TracedAtW B ea (.ref C) (.ref t) fl)
    (b1 : ∀ b o, s.heap.get? b = some o → b ∉ frs X.stack → b ∉ ch → ∃ o', B.get? b = some o') (b2 : ∀ b u, H' b = some u → ∃ o, B.get? b = some o) (hE : E (.ref C) none H') : wpAny M X.A (leaving X.env (.ref ea)) (fun _ s'' => CXR X.prog X.w X.outer X.H₀ X.s₀ E (.ref ea) s'') E2 s' := by
  have noex : ∀ b, b ∉ X.ex := fun b z => by rw [hex] at z; cases z
  have nch : ∀ {b o}, X.s₀.heap.get? b = some o → b ∉ ch := fun q z => absurd (Heap.lt_size q) (Nat.not_lt.mpr (hch _ z))
  refine leaves_any (hst ▸ I.ok.frames) hf hkb hen (hst ▸ hl) ht fun h2 x1 x2 => ?_
  have old : ∀ b o, X.s₀.heap.get? b = some o → b ∉ X.fs → ∃ o', B.get? b = some o' := fun b o q n => by
    obtain ⟨o', ho⟩ := I.base.there b o q (noex b)
    exact b1 b o' ho (I.notStk q n) (nch q)
  have fr : ∀ b o, s'.heap.get? b = some o → b ∈ X.fs → ∃ sl, h2.get? b = some { o with slots := sl } := fun b o q hb => by
    obtain ⟨_, o', ho', hd⟩ := hl.mem (I.stkSup hb)
    rw [q] at ho'; cases ho'
    exact x2 b o q hd
  refine ⟨ea, C, t, H', B, rfl, os.trans I.os, bare, ⟨fun b o q n hb _ => ?_, fun b o q n hb _ => ?_, fun b o q n _ => ?_, fun b o q _ => ?_, fun b xs q => un.tups b xs (I.base.tups b xs q), fun b o u q => un.frzs b o u (I.base.frzs b o u q), fun b ps q => ?_⟩, hok.by b2 hkb x1.1, x1, old, b2, hE⟩
  · have e1 := I.base.keep b o q n hb (noex b)
    have e2 := un.keep b o e1 (I.base.free b o q n (noex b)) (I.notStk q hb) (nch q)
    obtain ⟨o', e3⟩ := old b o q hb
    have e4 := hkb b o' e3
    rw [e2] at e4; cases e4
    exact x1.1 b _ e3
  · obtain ⟨sl, e1⟩ := I.base.slot b o q n hb (noex b)
    obtain ⟨sl1, e2⟩ := un.slot b _ e1 (I.base.free b o q n (noex b)) (I.stkSup hb) (nch q)
    obtain ⟨sl2, e3⟩ := fr b _ e2 hb
    exact ⟨sl2, e3⟩
  · obtain ⟨o', e1⟩ := I.base.there b o q (noex b)
    exact un.free b o' e1 (I.base.free b o q n (noex b)) (nch q)
  · by_cases hb : b ∈ X.fs
    · obtain ⟨o', e1⟩ := I.base.there b o q (noex b)
      obtain ⟨o2, e2⟩ := un.there b o' e1 (nch q)
      obtain ⟨sl2, e3⟩ := fr b _ e2 hb
      exact ⟨_, e3⟩
    · obtain ⟨o', e1⟩ := old b o q hb
      exact ⟨_, x1.1 b o' e1⟩
  · obtain ⟨m1, e1⟩ := I.base.tbls b ps q
    obtain ⟨m2, e2⟩ := un.tbls b _ e1
    exact ⟨m1 ++ m2, by rw [e2, Array.append_assoc]⟩
end
end L2
set_option Elab.async false
set_option linter.all false
set_option maxRecDepth 100000
set_option maxHeartbeats 1000000
namespace L2
open PySem PySem.Spec PyProof.Rows
theorem none_less {B B' : Heap} (k : ∀ b o, B'.get? b = some o → B.get? b = some o) {L : Addr} (h : B.get? L = none) : B'.get? L = none := by
  cases q : B'.get? L with
  | none => rfl
  | some u => rw [k _ _ q] at h; cases h
theorem frames_move {h h' B B' : Heap} (k : ∀ b o, B'.get? b = some o → B.get? b = some o) : ∀ {l : List Env}, (∀ b ∈ frs l, h'.get? b = h.get? b) → h.FunFrames B l → h'.FunFrames B' l
  | [], _, _ => trivial
  | env :: rest, g, ⟨h1, ⟨L, o, h2, h3, h4⟩, h5⟩ => by
    have hm : L ∈ frs (env :: rest) := by unfold frs; rw [List.filterMap_cons, h2]; exact List.mem_cons_self
    refine ⟨h1, ⟨L, o, h2, none_less k h3, by rw [g L hm]; exact h4⟩, frames_move k (fun b hb => g b ?_) h5⟩
    unfold frs; rw [List.filterMap_cons, h2]; exact List.mem_cons_of_mem _ hb
theorem comp_leaves {X Y : Cx} {pins pinsY : List (Addr × Obj)} {σ σY : St} {H2 H3 : Hp} {s2 s3 s' : Shared} {E : XK} {e : Value} {C : Addr} {ex : List Addr} {ob : Obj} {env' : Env}
    (I2 : Inv X pins σ H2 s2) (IY : Inv Y pinsY σY H3 s3) (yl : Y.env.locals = C) (yos : Y.s₀.os = s2.os) (U : Un (frs X.stack) ex H2 H3 (s2.heap.push ob) s3.heap) (hC : s2.heap.objs.size ≤ C) (hexs : ∀ b ∈ ex, X.s₀.heap.objs.size ≤ b)
    (hst : X.stack = X.env :: X.outer) (hf : X.env.frame = some X.env.locals) (hex : X.ex = []) (henv : env'.frame = X.env.frame)
    (hxe : ∀ x s, wpAny (model X.prog X.w) X.A (leaving X.env x) (fun _ s'' => CXR X.prog X.w X.outer X.H₀ X.s₀ E x s'') (fun x' s'' => CXR X.prog X.w X.outer X.H₀ X.s₀ E x' s'') s → X.xe x s)
    (h : CXR X.prog X.w X.stack H3 s3 E e s') :
    notedBy (model X.prog X.w) X.A env' (fun x s'' => ∃ m, s''.heap.Ns C m ∧ ∀ h', Heap.SameBut C s''.heap h' → ∀ cenv : Env, cenv.locals = C → wpAny (model X.prog X.w) X.A (PySem.passOn "comprehension.variables-let-go" x cenv : Sem Value) (fun _ _ => False) X.xe { s'' with heap := h' }) e s' := by
  obtain ⟨ea, Cc, t, H', B, rfl, os, bare, un, hok, fl, b1, b2, hE⟩ := h
  have en : noteFrame (.ref ea) env' = noteFrame (.ref ea) X.env := by unfold noteFrame PySem.frameOf; rw [henv]
  unfold notedBy
  rw [en]
  have fl0 := fl
  rw [hst] at fl0
  refine wpAny_looks_onW (env := X.env) (outer := X.outer) (hst ▸ I2.ok.frames) hf fl0 fun h1 held up1 => ?_
  rw [← hst] at held
  have nil : ∀ b : Addr, b ∉ ([] : List Addr) := fun b z => by cases z
  have cNot : C ∉ frs X.stack := fun z => by
    obtain ⟨_, o, ho, _⟩ := I2.stack.mem z
    exact absurd (Heap.lt_size ho) (Nat.not_lt.mpr hC)
  obtain ⟨mC, nsC, _⟩ := IY.loc
  have cF := IY.free
  rw [yl] at nsC cF
  obtain ⟨oC, _, _, eC, _⟩ := id nsC
  have cF' : H' C = none := un.free C oC eC cF (nil C)
  have ns1 : h1.Ns C mC := up1.ns (nsC.at' fun o q => un.keep C o q cF cNot (nil C))
  refine ⟨mC, ns1, fun h2 sb cenv _ => ?_⟩
  have sub : ∀ b o, (PySem.W.hideAll B [C]).get? b = some o → B.get? b = some o := fun b o q => PySem.W.of_hideAll _ q
  have nC : ∀ {b o}, (PySem.W.hideAll B [C]).get? b = some o → b ≠ C := fun {b o} q z => by
    subst z; rw [PySem.W.hideAll_none [b] (List.mem_singleton.mpr rfl)] at q; cases q
  have into : ∀ {b o}, B.get? b = some o → b ≠ C → (PySem.W.hideAll B [C]).get? b = some o := fun q n => PySem.W.hideAll_get _ q fun z => n (List.mem_singleton.mp z)
  have st2 : (PySem.W.hideAll B [C]).StaysIn h2 := fun b o q => (sb.2 b (nC q)).trans (held.1 b o (sub b o q))
  have fr2 : h2.FunFrames (PySem.W.hideAll B [C]) X.stack := frames_move sub (fun b hb => sb.2 b fun z => cNot (z ▸ hb)) held.2.2.1
  have noF : ∀ b o vs, h1.get? b = some o → o.data = .fields vs → b ≠ C := fun b o vs q d z => by
    obtain ⟨o', es, ep, ho, hd, _⟩ := ns1
    subst z
    rw [q] at ho; cases ho
    rw [d] at hd; cases hd
  have tr2 : h2.TracedAtW (PySem.W.hideAll B [C]) ea (.ref Cc) (.ref t) (rawInt X.env.locals) := by
    obtain ⟨oe, vs, T, oT, ts, he, hc, hd, h1', hnT, hTe, hT, hdT, h3⟩ := held.2.2.2
    exact ⟨oe, vs, T, oT, ts, (sb.2 ea (noF _ _ _ he hd)).trans he, hc, hd, h1', none_less sub hnT, hTe, (sb.2 T (noF _ _ _ hT hdT)).trans hT, hdT, h3⟩
  refine pass_any (B := PySem.W.hideAll B [C]) (l := X.stack) st2 fr2 tr2 fun h3 fl' k1 k2 k3 k4 => hxe _ _ ?_
  have nonF : ∀ b ∈ frs X.stack, ∀ o, s'.heap.get? b = some o → ∃ sl, h3.get? b = some { o with slots := sl } := fun b hb o q => by
    obtain ⟨_, o', ho', hd⟩ := fl.2.2.1.mem hb
    rw [q] at ho'; cases ho'
    obtain ⟨sl, e1⟩ := up1 b o q hd
    have nb : b ≠ C := fun z => cNot (z ▸ hb)
    have e2 : h2.get? b = some { o with slots := sl } := (sb.2 b nb).trans e1
    obtain ⟨sl2, e3⟩ := k4 b _ e2 hd
    exact ⟨sl2, e3⟩
  have push : ∀ {b o}, s2.heap.get? b = some o → (s2.heap.push ob).get? b = some o := fun q => Heap.get?_push_of_some _ q
  have nbC : ∀ {b o}, s2.heap.get? b = some o → b ≠ C := fun q z => absurd (Heap.lt_size q) (Nat.not_lt.mpr (z ▸ hC))
  have inB : ∀ b o, s2.heap.get? b = some o → b ∉ frs X.stack → b ∉ ex → ∃ o', (PySem.W.hideAll B [C]).get? b = some o' := fun b o q hb hx => by
    obtain ⟨o3, e3⟩ := U.there b o (push q) hx
    obtain ⟨o', eB⟩ := b1 b o3 e3 hb
    exact ⟨o', into eB (nbC q)⟩
  have trk : ∀ b u, H' b = some u → ∃ o, (PySem.W.hideAll B [C]).get? b = some o := fun b u q => by
    obtain ⟨o, eB⟩ := b2 b u q
    exact ⟨o, into eB fun z => by rw [z, cF'] at q; cases q⟩
  have hen' : (PySem.W.hideAll B [C]).get? ea = none := by
    cases q : (PySem.W.hideAll B [C]).get? ea with
    | none => rfl
    | some o => have := sub _ _ q; rw [fl.2.1] at this; cases this
  refine leaves_onC (C := Cc) (t := t) (H' := H') (B := PySem.W.hideAll B [C]) (fl := fl') (C :: ex) (fun b hb => ?_) I2 hst hf hex (os.trans (IY.os.trans yos)) bare ⟨fun b o q n hb hx => ?_, fun b o q n hb hx => ?_, fun b o q n hx => ?_, fun b o q hx => ?_, fun b xs q => un.tups b xs (U.tups b xs q), fun b o u q => un.frzs b o u (U.frzs b o u q), fun b ps q => ?_⟩ (hok.by trk (fun b o q => fl.1 b o (sub b o q)) k1) k1 hen' k2 k3 (fun b o q hb hx => inB b o q hb fun z => hx (List.mem_cons_of_mem _ z)) trk hE
  · rcases List.mem_cons.mp hb with rfl | hb
    · exact Nat.le_trans I2.sz hC
    · exact hexs b hb
  · have hx' : b ∉ ex := fun z => hx (List.mem_cons_of_mem _ z)
    have e3 := U.keep b o (push q) n hb hx'
    have e4 := un.keep b o e3 (U.free b o (push q) n hx') hb (nil b)
    obtain ⟨o', eB⟩ := b1 b o e3 hb
    have := fl.1 b o' eB
    rw [e4] at this; cases this
    exact k1 b o (into eB (nbC q))
  · have hx' : b ∉ ex := fun z => hx (List.mem_cons_of_mem _ z)
    obtain ⟨sl, e3⟩ := U.slot b o (push q) n hb hx'
    obtain ⟨sl1, e4⟩ := un.slot b _ e3 (U.free b o (push q) n hx') hb (nil b)
    obtain ⟨sl2, e5⟩ := nonF b hb _ e4
    exact ⟨sl2, e5⟩
  · have hx' : b ∉ ex := fun z => hx (List.mem_cons_of_mem _ z)
    obtain ⟨o3, e3⟩ := U.there b o (push q) hx'
    exact un.free b o3 e3 (U.free b o (push q) n hx') (nil b)
  · have hx' : b ∉ ex := fun z => hx (List.mem_cons_of_mem _ z)
    by_cases hb : b ∈ frs X.stack
    · obtain ⟨o3, e3⟩ := U.there b o (push q) hx'
      obtain ⟨o4, e4⟩ := un.there b o3 e3 (nil b)
      obtain ⟨sl2, e5⟩ := nonF b hb _ e4
      exact ⟨_, e5⟩
    · obtain ⟨o', eB⟩ := inB b o q hb hx'
      exact ⟨o', k1 b o' eB⟩
  · obtain ⟨m1, e1⟩ := U.tbls b ps q
    obtain ⟨m2, e2⟩ := un.tbls b _ e1
    exact ⟨m1 ++ m2, by rw [e2, Array.append_assoc]⟩
end L2
set_option Elab.async false
set_option linter.all false
set_option maxRecDepth 100000
set_option maxHeartbeats 1000000
namespace L2
open PySem PySem.Spec PyProof.Rows
theorem comp_coreX {X : Cx} {E : XK} {elt tg iter : Expr} {ifs : List Expr} {scope : Scope} {pos : Pos} {N : List Str} {k : Nat} {cap : List Nat} {wi : TI} {tt : TTg} {tc : TT} {te : TE} {cl : List (Str × Addr)}
    (hc : X.calm = true) (hi : PI X tg iter wi) (hg : ∀ cl C s H ex pn xe, PTg ((compCx X scope N cl C s H ex pn).wish xe) k tg tt) (ht : ∀ cl C s H ex pn xe, PTs ((compCx X scope N cl C s H ex pn).wish xe) ifs tc)
    (he : ∀ cl C s H ex pn xe, Passes (CXR X.prog X.w) ((compCx X scope N cl C s H ex pn).wish xe) E → PE ((compCx X scope N cl C s H ex pn).wish xe) elt te)
    (hst : X.stack = X.env :: X.outer) (hf : X.env.frame = some X.env.locals) (hex : X.ex = [])
    (hxe : ∀ x s, wpAny (model X.prog X.w) X.A (leaving X.env x) (fun _ s'' => CXR X.prog X.w X.outer X.H₀ X.s₀ E x s'') (fun x' s'' => CXR X.prog X.w X.outer X.H₀ X.s₀ E x' s'') s → X.xe x s) (S : CompOk scope X.env.scope N X.N k cap)
    (hcl1 : ∀ x c, cl.lookup x = some c → X.env.cells.lookup x = some c) (hcl2 : ∀ x, (x, NameKind.free) ∈ scope.names → ∃ c, cl.lookup x = some c)
    {pins : List (Addr × Obj)} {s : Shared} {σ : St} {H : Hp} {Q : VK} (I : Inv X pins σ H s) (h : tComp wi tt tc te cap σ H Q) {RR : Value → Addr → Result → Shared → Prop}
    (hRR : ∀ D C s1 H', Inv X pins σ H' s1 → Blk X pins H' s1 C → Q (.ref D) H' → RR (.ref D) C (.ok .next) s1)
    (hRX : ∀ D C x s1, (∃ m, s1.heap.Ns C m ∧ ∀ h', Heap.SameBut C s1.heap h' → ∀ cenv : Env, cenv.locals = C → wpAny (model X.prog X.w) X.A (PySem.passOn "comprehension.variables-let-go" x cenv : Sem Value) (fun _ _ => False) X.xe { s1 with heap := h' }) → RR D C (.error x) s1) :
    wpAny (model X.prog X.w) X.A (eval iter X.env) (fun x s₁ => wpAny (model X.prog X.w) X.A (pyIter x) (fun it s₂ => wpAny (model X.prog X.w) X.A (newList []) (fun acc s₃ =>
      wpAny (model X.prog X.w) X.A (newFunctionEnv scope X.env.globals cl [] X.env.qual none .none (some X.env)) (fun cenv s₄ =>
        codeAny (model X.prog X.w) X.A (.compStart (.ListComp elt [⟨tg, iter, ifs, 0⟩] scope pos) 0 it acc { cenv with scope := relabel scope X.env }) (RR acc cenv.locals) s₄) X.xe s₃) X.xe s₂) X.xe s₁) X.xe s := by
  refine thn (hi pins s σ H _ I h) fun v s1 h1 => thn h1 fun itv s2 h2 => ?_
  obtain ⟨it, fp, tn, J, H2, e, I2, T, st2, f2, W, ⟨m0, w0⟩, turn⟩ := h2
  subst e
  refine wpAny_newObj_type (wpAny_newFunctionEnv S.cell (by intro y hy; simp at hy) (fun h₁ hns₁ hsb₁ => ?_) S.kind)
  dsimp only at hns₁ hsb₁ ⊢
  have hP : s2.heap.push { cls := .type "list", dict := none, data := .seq ([] : List Value).toArray } = s2.heap.push { cls := .type "list", data := .seq #[] } := rfl
  rw [hP] at hns₁ hsb₁ ⊢
  have hC : (s2.heap.push { cls := .type "list", data := .seq #[] }).objs.size = s2.heap.objs.size + 1 := Heap.size_push ..
  rw [hC] at hns₁ hsb₁ ⊢
  have hsb : ∀ b o, (s2.heap.push { cls := .type "list", data := .seq #[] }).get? b = some o → h₁.get? b = some o := fun b o e =>
    hsb₁.extBut b o (by have := Heap.lt_size e; rw [hC] at this; exact Nat.ne_of_lt this) (Heap.get?_push_of_some _ e)
  have hob : ∀ b ∈ fp, ∃ o, s2.heap.get? b = some o := fun b hb => by obtain ⟨o, e, _⟩ := T.obj _ _ st2 b hb; exact ⟨o, e⟩
  have IY := comp_start (N := N) (k := k) (cap := cap) (tk := s2.toks + ([] : List (Str × Value)).length) I2 S hcl1 hcl2 f2 hob hns₁ hsb
  obtain ⟨xb, hxb⟩ : ∃ xb : Value → Shared → Prop, xb = fun x s' => ∃ (pl : List (Addr × Obj)) (σ' : St) (H' : Hp) (s3 : Shared), Inv (compCx X scope N cl (s2.heap.objs.size + 1) { s2 with heap := s2.heap.push { cls := .type "list", data := .seq #[] } } H2 (s2.heap.objs.size :: fp) (X.pn ++ pins)) pl σ' H' s3 ∧ CXR X.prog X.w X.stack H' s3 E x s' := ⟨_, rfl⟩
  replace IY := IY.wish xb
  have pB : Passes (CXR X.prog X.w) ((compCx X scope N cl (s2.heap.objs.size + 1) { s2 with heap := s2.heap.push { cls := .type "list", data := .seq #[] } } H2 (s2.heap.objs.size :: fp) (X.pn ++ pins)).wish xb) E := fun pl σ' H' s3 x s' I h => by rw [hxb]; exact ⟨pl, σ', H', s3, I.unwish, h⟩
  have lv : ∀ x s', xb x s' → notedBy (model X.prog X.w) X.A (compEnvC scope cl (s2.heap.objs.size + 1) X.env) (fun x s' => RR (.ref s2.heap.objs.size) (s2.heap.objs.size + 1) (.error x) s') x s' := fun x s' z => by
    rw [hxb] at z
    obtain ⟨pl, σ', H', s3, I3, z⟩ := z
    refine wpAny_mono (comp_leaves I2 I3 rfl rfl I3.base (Nat.le_succ _) (fun b hb => ?_) hst hf hex rfl hxe z) (fun _ s'' q => hRX _ _ _ _ q) fun _ s'' q => hRX _ _ _ _ q
    rcases List.mem_cons.mp hb with rfl | hb
    · exact I2.sz
    · exact (f2 b hb).2.2.2.1.elim (fun z => by rw [hex] at z; cases z) id
  generalize hY : (compCx X scope N cl (s2.heap.objs.size + 1) { s2 with heap := s2.heap.push { cls := .type "list", data := .seq #[] } } H2 (s2.heap.objs.size :: fp) (X.pn ++ pins)).wish xb = Y at IY
  have yp : Y.prog = X.prog := by rw [← hY]
  have yw : Y.w = X.w := by rw [← hY]
  have yK : Y.K = X.K := by rw [← hY]
  have yA : Y.A = X.A := by rw [← hY]
  have yc : Y.calm = true := by rw [← hY]; exact hc
  have yl : Y.env.locals = s2.heap.objs.size + 1 := by rw [← hY]; rfl
  have yenv : Y.env = compEnvC scope cl (s2.heap.objs.size + 1) X.env := by rw [← hY]
  have yex : Y.ex = s2.heap.objs.size :: fp := by rw [← hY]
  have yfs : Y.fs = frs X.stack := by rw [← hY]
  have ypn : Y.pn = X.pn ++ pins := by rw [← hY]
  have ycl : Y.env.cells = cl := by rw [← hY]; rfl
  have yxe : Y.xe = xb := by rw [← hY]
  have gT : PTg Y k tg tt := by rw [← hY]; exact hg _ _ _ _ _ _ _
  have gC : PTs Y ifs tc := by rw [← hY]; exact ht _ _ _ _ _ _ _
  have gE : PE Y elt te := by rw [← hY]; exact he _ _ _ _ _ _ _ pB
  have yH : Y.H₀ = H2 := by rw [← hY]
  have ys0 : Y.s₀ = { s2 with heap := s2.heap.push { cls := .type "list", data := .seq #[] } } := by rw [← hY]
  have fpLt : ∀ b ∈ fp, b < s2.heap.objs.size := fun b hb => by obtain ⟨o, e⟩ := hob b hb; exact Heap.lt_size e
  have pinLt : ∀ p ∈ X.pn ++ pins, p.1 < s2.heap.objs.size := fun p hp => Heap.lt_size (I2.pin p hp).1
  have cellLt : ∀ x c, X.env.cells.lookup x = some c → c < s2.heap.objs.size := fun x c e => by
    obtain ⟨v, q⟩ := I2.cell x c e
    exact q.lt
  have stkNe : ∀ b, b ≠ X.env.locals → b ∉ X.fs → b ∉ frs X.stack := fun b h1 h2 hb => (List.mem_cons.mp (I2.stkSub b hb)).elim h1 h2
  have fpY : ∀ {H' : Hp} {pl : List (Addr × Obj)}, (∀ b ∈ fp, H' b = none) → (∀ p ∈ pl, p.1 = s2.heap.objs.size) → ∀ b ∈ fp, FpOk Y pl H' b := fun {H' pl} hn hpl b hb => by
    refine ⟨hn b hb, ?_, ?_, .inl ?_, fun x c e => ?_, fun p hp => ?_⟩
    · rw [yl]; exact Nat.ne_of_lt (Nat.lt_succ_of_lt (fpLt b hb))
    · rw [yfs]; exact stkNe b (f2 b hb).2.1 (f2 b hb).2.2.1
    · rw [yex]; exact List.mem_cons_of_mem _ hb
    · rw [ycl] at e; exact (f2 b hb).2.2.2.2.1 x c (hcl1 x c e)
    · rcases List.mem_append.mp hp with hp | hp
      · rw [ypn] at hp; exact (f2 b hb).2.2.2.2.2 p hp
      · rw [hpl p hp]; exact Nat.ne_of_gt (fpLt b hb)
  have loop : ∀ s₃ : Shared, s₃ = { s2 with heap := h₁, toks := s2.toks + ([] : List (Str × Value)).length } →
      codeAny (model X.prog X.w) X.A (.compLoop (.ListComp elt [⟨tg, iter, ifs, 0⟩] scope pos) 0 (.ref it) (.ref s2.heap.objs.size) (compEnvC scope cl (s2.heap.objs.size + 1) X.env)) (RR (.ref s2.heap.objs.size) (s2.heap.objs.size + 1)) s₃ := by
    rintro s₃ rfl
    refine comp_loopX (X := xb) (hX := lv) (fun n s' => ∃ i ys its H' c, Inv Y [(s2.heap.objs.size, { cls := .type "list", data := .seq (List.toArray its) c })] (List.replicate k none ++ capS σ cap) H' s' ∧ tn i s'.heap ∧ (∀ b ∈ fp, H' b = none) ∧ Vals ys its ∧ W i n ys H') ?_ m0
      ⟨0, [], [], H2, _, IY, T.keep _ _ _ st2 fun b hb o e => hsb b o (Heap.get?_push_of_some _ e), fun b hb => (f2 b hb).1, .nil, w0⟩
    rintro n s3 ⟨i, ys, its, H3, c3, I3, st3, fr3, rv3, w3⟩
    have onlyD : ∀ p ∈ [(s2.heap.objs.size, ({ cls := .type "list", data := .seq its.toArray c3 } : Obj))], p.1 = s2.heap.objs.size := fun p hp => by
      have : p = (s2.heap.objs.size, { cls := .type "list", data := .seq its.toArray c3 }) := by simpa using hp
      rw [this]
    have pinD : ∀ {pl : List (Addr × Obj)} {σ' : St} {H' : Hp} {s' : Shared}, Inv Y ([(s2.heap.objs.size, ({ cls := .type "list", data := .seq its.toArray c3 } : Obj))] ++ pl) σ' H' s' → s'.heap.get? s2.heap.objs.size = some { cls := .type "list", data := .seq its.toArray c3 } ∧ H' s2.heap.objs.size = none := fun I' => by
      obtain ⟨e, n, _⟩ := I'.pin (s2.heap.objs.size, { cls := .type "list", data := .seq its.toArray c3 }) (List.mem_append_right _ (List.mem_append_left _ (by simp)))
      exact ⟨e, n⟩
    rcases turn i n ys H3 w3 with ⟨stop, hz, qn⟩ | ⟨go, Nx, hNx, step⟩
    · have hd := T.done Y yp yw yK yc i _ s3 _ H3 xb I3 (fpY fr3 onlyD) st3 stop
      rw [yA] at hd
      refine thn hd fun r s4 hm0 => ?_
      obtain ⟨hr, I4⟩ := hm0
      subst hr
      obtain ⟨eD, nD⟩ := pinD (pl := []) (by simpa using I4)
      have nC : H3 (s2.heap.objs.size + 1) = none := by have := I4.free; rw [yl] at this; exact this
      obtain ⟨mC, nsC, _⟩ := I4.loc
      rw [yl] at nsC
      have U := I4.base
      rw [yfs, yex, yH, ys0] at U
      have old : ∀ {b o}, s2.heap.get? b = some o → b < s2.heap.objs.size := fun e => Heap.lt_size e
      have Un2 : Un (frs X.stack) (s2.heap.objs.size :: fp) H2 (upd H3 s2.heap.objs.size (.lst ys)) s2.heap s4.heap :=
        ⟨fun b o e n hb hx => U.keep b o (Heap.get?_push_of_some _ e) n hb hx, fun b o e n hb hx => U.slot b o (Heap.get?_push_of_some _ e) n hb hx,
          fun b o e n hx => by rw [upd_ne (Nat.ne_of_lt (old e))]; exact U.free b o (Heap.get?_push_of_some _ e) n hx, fun b o e hx => U.there b o (Heap.get?_push_of_some _ e) hx,
          fun b xs e => by have q := U.tups b xs e; rw [upd_ne (ne_of_none q nD)]; exact q, fun b o u e => by have q := U.frzs b o u e; rw [upd_ne (ne_of_none q nD)]; exact q,
          fun b ps e => by obtain ⟨mo, q⟩ := U.tbls b ps e; exact ⟨mo, by rw [upd_ne (ne_of_none q nD)]; exact q⟩⟩
      have hok4 := I4.hok
      rw [yp, yw] at hok4
      have IX : Inv X pins σ (upd H3 s2.heap.objs.size (.lst ys)) s4 := by
        refine I2.call' (ch := s2.heap.objs.size :: fp) ?_ Un2 (hok4.adopt nD ⟨hz, its, c3, rv3, eD⟩) I4.bare fun b hb => ?_
        · have := I4.os; rw [ys0] at this; exact this
        · rcases List.mem_cons.mp hb with rfl | hb
          · exact ⟨.inr I2.sz, Nat.ne_of_gt I2.lt, fun x c e => Nat.ne_of_lt (cellLt x c e), fun p hp => Nat.ne_of_lt (pinLt p hp)⟩
          · exact ⟨(f2 b hb).2.2.2.1, (f2 b hb).2.1, (f2 b hb).2.2.2.2.1, (f2 b hb).2.2.2.2.2⟩
      refine hRR _ _ s4 _ IX ⟨⟨mC, nsC⟩, ?_, ?_, Nat.le_succ_of_le I2.sz, fun x c e => Nat.ne_of_lt (Nat.lt_succ_of_lt (cellLt x c e)), fun p hp => Nat.ne_of_lt (Nat.lt_succ_of_lt (pinLt p hp))⟩ (qn _ nD)
      · rw [upd_ne (Nat.succ_ne_self _)]; exact nC
      · exact Nat.ne_of_gt (Nat.lt_succ_of_lt I2.lt)
    · have hd := T.item Y yp yw yK yc i _ s3 _ H3 xb I3 (fpY fr3 onlyD) st3 go
      rw [yA] at hd
      refine thn hd fun r s4 hm0 => ?_
      obtain ⟨u, hr, h4⟩ := hm0
      subst hr
      refine thn h4 fun _ s5 hm0 => ?_
      obtain ⟨x, H5, I5, r5, y5, st5, fr5⟩ := hm0
      have I5' := I5.pinned (fpY fr5 onlyD) (T.obj _ _ st5)
      have a5 := gT _ s5 _ H5 x u _ I5' (by simp) r5 (step x H5 y5)
      rw [yp, yw, yA, yxe, yenv] at a5
      refine thn a5 fun _ s6 hm0 => ?_
      obtain ⟨ws, hlw, q6, I6⟩ := hm0
      have dr : (List.replicate k (none : Option V) ++ capS σ cap).drop k = capS σ cap := by
        rw [List.drop_append_of_le_length (by simp)]; simp
      rw [dr] at I6
      have a6 := gC _ s6 _ H5 _ I6 q6
      rw [yp, yw, yA, yxe, yenv] at a6
      refine thn a6 fun ok s7 hm0 => ?_
      obtain ⟨H7, I7, q7⟩ := hm0
      have wk : ∀ (j : Nat) v, (List.replicate k (none : Option V) ++ capS σ cap)[j]? = some (some v) → (ws.map some ++ capS σ cap)[j]? = some (some v) := fun j v e => by
        have hik : k ≤ j := by
          refine Nat.le_of_not_lt fun hlt => ?_
          rw [List.getElem?_append_left (by simpa using hlt), List.getElem?_replicate] at e
          split at e <;> cases e
        rw [List.getElem?_append_right (by simpa using hik), List.length_replicate] at e
        rw [List.getElem?_append_right (by simpa [hlw] using hik), List.length_map, hlw]
        exact e
      have wl : (List.replicate k (none : Option V) ++ capS σ cap).length = (ws.map some ++ capS σ cap).length := by simp [hlw]
      have stn : ∀ {H' : Hp} {s' : Shared}, Inv Y ([(s2.heap.objs.size, ({ cls := .type "list", data := .seq its.toArray c3 } : Obj))] ++ pinsAt fp s5.heap) (ws.map some ++ capS σ cap) H' s' → tn (i + 1) s'.heap ∧ ∀ b ∈ fp, H' b = none := fun {H' s'} I' => by
        refine ⟨T.keep _ _ _ st5 fun b hb o e => (I'.pin (b, o) (List.mem_append_right _ (List.mem_append_right _ (mem_pinsAt hb e)))).1, fun b hb => ?_⟩
        obtain ⟨o, e, d⟩ := T.obj _ _ st5 b hb
        exact (I'.pin (b, o) (List.mem_append_right _ (List.mem_append_right _ (mem_pinsAt hb e)))).2.1
      cases ok with
      | false =>
        obtain ⟨_, m', hm, w'⟩ := hNx _ _ q7
        obtain ⟨t7, f7⟩ := stn I7
        exact ⟨m', hm, i + 1, ys, its, H7, c3, (I7.weak wl wk).unpinned, t7, f7, rv3, w'⟩
      | true =>
        have a7 := gE _ s7 _ H7 _ I7 q7
        rw [yp, yw, yA, yxe, yenv] at a7
        rw [if_pos rfl]
        refine thn a7 fun yv s8 hm0 => ?_
        obtain ⟨y, H8, I8, r8, q8⟩ := hm0
        obtain ⟨hz8, m', hm, w'⟩ := hNx _ _ q8
        rw [List.length_append, List.length_singleton] at hz8
        obtain ⟨eD, nD⟩ := pinD I8
        obtain ⟨t8, f8⟩ := stn I8
        refine wpAny_list_append_plain (hsz := by rw [List.size_toArray, ← rv3.length]; omega) ⟨c3, eD⟩ fun h9 pl9 sb9 => ?_
        obtain ⟨c9, e9⟩ := pl9
        have I8' : Inv Y [] (List.replicate k none ++ capS σ cap) H8 s8 := (I8.weak wl wk).pins_of fun p hp => by cases hp
        have I9 : Inv Y [] (List.replicate k none ++ capS σ cap) H8 { s8 with heap := h9 } :=
          I8'.turned (t' := s8.toks) (it := s2.heap.objs.size) (fun b o hb e => sb9.extBut b o hb e) nD (by rw [yl]; exact Nat.ne_of_lt (Nat.lt_succ_self _)) (.inl (by rw [yex]; exact List.mem_cons_self)) (fun x c e => by rw [ycl] at e; exact Nat.ne_of_lt (cellLt x c (hcl1 x c e)))
            fun p hp => by
              rw [List.append_nil, ypn] at hp
              exact Nat.ne_of_lt (pinLt p hp)
        have e9' : h9.get? s2.heap.objs.size = some { cls := .type "list", data := .seq (its ++ [yv]).toArray c9 } := by rw [e9]; simp
        refine ⟨m', hm, i + 1, ys ++ [y], its ++ [yv], H8, c9, I9.pins_of fun p hp => ?_, T.keep _ _ _ t8 fun b hb o e => sb9.extBut b o (Nat.ne_of_lt (fpLt b hb)) e, f8, rv3.append (.cons r8 .nil), w'⟩
        have : p = (s2.heap.objs.size, { cls := .type "list", data := .seq (its ++ [yv]).toArray c9 }) := by simpa using hp
        subst this
        refine ⟨e9', nD, ?_, ?_, fun v z => by cases z⟩
        · rw [yl]; exact Nat.ne_of_lt (Nat.lt_succ_self _)
        · rw [yfs]; exact stkNe _ (Nat.ne_of_gt I2.lt) (I2.nofs (Nat.le_refl _))
  exact codeAny_compStart_list (loop _ rfl) (T.self _ 0 _ _ _ (T.keep _ _ _ st2 fun b hb o e => hsb b o (Heap.get?_push_of_some _ e)) (loop _ rfl))
section
variable {X : Cx} {elt tg iter : Expr} {ifs : List Expr} {scope : Scope} {pos : Pos} {N : List Str} {k : Nat} {cap : List Nat} {wi : TI} {tt : TTg} {tc : TT} {te : TE}
theorem pe_compX {E : XK} (hc : X.calm = true) (S : CompOk scope X.env.scope N X.N k cap) (hi : PI X tg iter wi) (hg : ∀ cl C s H ex pn xe, PTg ((compCx X scope N cl C s H ex pn).wish xe) k tg tt) (ht : ∀ cl C s H ex pn xe, PTs ((compCx X scope N cl C s H ex pn).wish xe) ifs tc)
    (he : ∀ cl C s H ex pn xe, Passes (CXR X.prog X.w) ((compCx X scope N cl C s H ex pn).wish xe) E → PE ((compCx X scope N cl C s H ex pn).wish xe) elt te)
    (hst : X.stack = X.env :: X.outer) (hf : X.env.frame = some X.env.locals) (hex : X.ex = [])
    (hxe : ∀ x s, wpAny (model X.prog X.w) X.A (leaving X.env x) (fun _ s'' => CXR X.prog X.w X.outer X.H₀ X.s₀ E x s'') (fun x' s'' => CXR X.prog X.w X.outer X.H₀ X.s₀ E x' s'') s → X.xe x s) (hs : ∀ x, foldedSetIterable iter X.env x = pure x := by intro _; rfl) :
    PE X (.ListComp elt [⟨tg, iter, ifs, 0⟩] scope pos) (tComp wi tt tc te cap) := by
  intro pins s σ H Q I h
  obtain ⟨cl, hclos, hcl1, hcl2⟩ := clos_of (scope := scope) (env := X.env) fun y hy hf => I.ok.has y.1 (S.free y hy hf)
  rw [eval_ListComp]
  refine wpAny_comprehension_free (use := none) rfl hs hclos S.kind S.loc ?_
  refine comp_coreX hc hi hg ht he hst hf hex hxe S hcl1 hcl2 I h (fun D C s1 H' I1 B q => ?_) fun _ _ _ _ z => z
  obtain ⟨m, hm⟩ := B.ns
  exact ⟨m, hm, fun h' sb => ⟨.ref D, H', B.turn I1 sb, rfl, q⟩⟩
end
end L2
set_option Elab.async false
set_option linter.all false
set_option maxRecDepth 100000
set_option maxHeartbeats 1000000
namespace L2
open PySem PySem.Spec PyProof.Rows
section
variable {X : Cx} {elt tg iter : Expr} {ifs : List Expr} {scope : Scope} {pos : Pos} {N : List Str} {k : Nat} {cap : List Nat} {wi : TI} {tt : TTg} {tc : TT} {te : TE}
end
section
variable {X : Cx} {elt tg iter : Expr} {ifs : List Expr} {scope : Scope} {pos : Pos} {wi : TI} {tt : TTg} {tc : TT} {te : TE}
theorem pe_lcX {E : XK} (psc : Scope) (PN N : List Str) (k : Nat) (cap : List Nat) (hi : PI X tg iter wi) (hg : ∀ cl C s H ex pn xe, PTg ((compCx X scope N cl C s H ex pn).wish xe) k tg tt) (ht : ∀ cl C s H ex pn xe, PTs ((compCx X scope N cl C s H ex pn).wish xe) ifs tc)
    (he : ∀ cl C s H ex pn xe, Passes (CXR X.prog X.w) ((compCx X scope N cl C s H ex pn).wish xe) E → PE ((compCx X scope N cl C s H ex pn).wish xe) elt te)
    (hxe : ∀ x s, wpAny (model X.prog X.w) X.A (leaving X.env x) (fun _ s'' => CXR X.prog X.w X.outer X.H₀ X.s₀ E x s'') (fun x' s'' => CXR X.prog X.w X.outer X.H₀ X.s₀ E x' s'') s → X.xe x s := by intro _ _ h; exact h) (hst : X.stack = X.env :: X.outer := by rfl) (hf : X.env.frame = some X.env.locals := by rfl) (hex : X.ex = [] := by rfl) (hc : X.calm = true := by rfl) (h1 : X.env.scope = psc := by rfl) (h2 : X.N = PN := by rfl) (S : compOkB scope psc N PN k cap = true := by decide +kernel)
    (hs : ∀ x, foldedSetIterable iter X.env x = pure x := by intro _; rfl) :
    PE X (.ListComp elt [⟨tg, iter, ifs, 0⟩] scope pos) (tComp wi tt tc te cap) := pe_compX hc (by rw [h1, h2]; exact compOk_of S) hi hg ht he hst hf hex hxe hs
end
end L2
set_option Elab.async false
set_option linter.all false
set_option maxRecDepth 100000
set_option maxHeartbeats 1000000
namespace L2
open PySem PySem.Spec PyProof.Rows
section
variable {P : Program} {w : World} {K : PySem.W.Frag} {mg : Str → Option Value} {base : Heap}
end
section
variable {X : Cx} {E : XK}
end
end L2
set_option Elab.async false
set_option linter.all false
set_option maxRecDepth 100000
set_option maxHeartbeats 1000000
namespace L2
open PySem PySem.Spec PyProof.Rows
section
variable {X : Cx} {k n : Nat} {f C : Addr} {fd : FuncData} {ps fs : List Str} {sp : Sp} {x m : Str} {p pos apos : Pos} {e o : Expr} {es : List Expr} {ta : TE} {t : TA}
end
section
variable {X : Cx}
end
end L2
set_option Elab.async false
set_option linter.all false
set_option maxRecDepth 100000
set_option maxHeartbeats 1000000
namespace L2
open PySem PySem.Spec PyProof.Rows
end L2
set_option Elab.async false
set_option linter.all false
set_option maxRecDepth 100000
namespace L2
open PySem PySem.W PySem.Calls PyProof.Rows
def topRunT (tb : String → Option Builtin) (p : Program) (w : World) (n₀ : Nat) (ann : Option Value) : Nat → SharedT → Thread → Option SharedT
  | 0, _, _ => none
  | n + 1, s, t => match through t with
    | true => some s
    | false => match stepOk n₀ ann t with
      | false => none
      | true => match stepT (denote tb) p w s t with
        | some (s', t') => topRunT tb p w n₀ ann n s' t'
        | none => none
theorem topRun_of {tb : String → Option Builtin} {p : Program} {w : World} {n₀ : Nat} {ann : Option Value} : ∀ {n : Nat} {s s' : SharedT} {t : Thread}, topRunT tb p w n₀ ann n s t = some s' → topRun tb p w n₀ ann n s.abs t = some s'.abs
  | 0, _, _, _, h => by cases h
  | n + 1, s, s', t, h => by
    unfold topRunT at h
    unfold topRun
    cases he : through t with
    | true => rw [he] at h; cases h; rfl
    | false =>
      rw [he] at h
      cases hk : stepOk n₀ ann t with
      | false => rw [hk] at h; cases h
      | true =>
        rw [hk] at h
        cases hs : stepT (denote tb) p w s t with
        | none => rw [hs] at h; cases h
        | some r => obtain ⟨s₂, t₂⟩ := r; rw [hs] at h; rw [stepT_spec hs]; exact topRun_of h
noncomputable def topRunQ (p : Program) (w : World) (n₀ : Nat) (ann : Option Value) : Nat → SharedT → Thread → Option SharedT
  | 0, _, _ => none
  | n + 1, s, t => match through t with
    | true => some s
    | false => match PySem.W.Fast.tw6613529449190102663 n₀ ann t with
      | false => none
      | true => match PySem.W.Fast.tw10156331382660048174 (PySem.W.Fast.tw11892475500146522536 PySem.W.Fast.tw14364793385576792824) p w s t with
        | some (s', t') => topRunQ p w n₀ ann n s' t'
        | none => none
theorem topRunQ_eq {p : Program} {w : World} {n₀ : Nat} {ann : Option Value} : ∀ (n : Nat) (s : SharedT) (t : Thread), topRunQ p w n₀ ann n s t = topRunT treeTable p w n₀ ann n s t
  | 0, _, _ => rfl
  | n + 1, s, t => by
    unfold topRunQ topRunT
    rw [← PySem.W.Fast.te6613529449190102663, ← PySem.W.Fast.te10156331382660048174, ← PySem.W.Fast.te11892475500146522536, ← PySem.W.Fast.te14364793385576792824]
    cases through t with
    | true => rfl
    | false =>
      dsimp only
      cases stepOk n₀ ann t with
      | false => rfl
      | true =>
        dsimp only
        cases stepT (denote treeTable) p w s t with
        | none => rfl
        | some r => exact topRunQ_eq n r.1 r.2
def treeOf : List Obj → Nat → BT → BT
  | [], _, t => t
  | o :: l, n, t => treeOf l (n + 1) (t.ins n o)
noncomputable def boot_tree (P : Params) : BT := treeOf (boot_heap P).objs.toList 0 .nil
noncomputable def topLook {α : Type} (p q : Program) (loose : List Str) (Xt : Shared → Bool) (g0 : Bool) (Yf : Shared → α) (H : Heap) (s : Shared) :=
  ((staticsOk (importedModules p.main.body) H s.heap && namesBound p s.heap && gensDone s && laidKept H s.heap), PySem.W.Fast.tw4187177175401517315 q loose (importedModules p.main.body) Xt g0 s, Yf s)
theorem left_tree {p q : Program} {loose : List Str} {Xt : Shared → Bool} {α : Type} {Yf : Shared → α} {Ya : World → α} {N : Nat} {g0 : Bool} {H₀ : Params → Heap} {gs₀ : Array GenState} {d₀ : Drawn} {k₀ : Nat} {m₀ : Nat} {ann : Option Value} {M : Nat} {T₀ : Params → BT} {n₀ : Nat} {life : Life}
    (open_ : ∀ w : World, (fencedOpening treeTable p w N).map (fun s => (s.heap, s.gens, s.drawn, s.toks)) = some (H₀ w.params, gs₀, d₀, k₀))
    (size : ∀ w : World, ((H₀ w.params).isNs mainGlobals && gs₀.size == 0, (H₀ w.params).objs.size, (H₀ w.params).nsMap mainGlobals "__annotations__") = (true, m₀, ann))
    (tree : ∀ P : Params, absHeap (T₀ P) n₀ life = H₀ P)
    (run : ∀ (w : World) (os : OsState), (topRunQ p w m₀ ann M ⟨T₀ w.params, n₀, life, gs₀, d₀, k₀, os⟩ (topStub p)).map (fun r => topLook p q loose Xt g0 Yf (H₀ w.params) r.abs) = some (true, openGood q loose, Ya w))
    (le : Nat.ble M N = true) : LeftO p q loose Xt Yf Ya N g0 := fun w => by
  obtain ⟨⟨h, gs, d, k, os⟩, e, e'⟩ := Option.map_eq_some_iff.mp (open_ w)
  obtain ⟨rfl, rfl, rfl, rfl⟩ : h = H₀ w.params ∧ gs = gs₀ ∧ d = d₀ ∧ k = k₀ := by simpa using e'
  obtain ⟨z1, z2, z3⟩ : _ ∧ _ ∧ _ := by simpa only [Prod.mk.injEq] using size w
  obtain ⟨r, hr, hl⟩ := Option.map_eq_some_iff.mp (run w os)
  obtain ⟨l1, l2, l3⟩ : _ ∧ _ ∧ _ := by simpa only [topLook, ← PySem.W.Fast.te4187177175401517315, Prod.mk.injEq] using hl
  rw [topRunQ_eq] at hr
  have r2 := topRun_of hr
  have ea : SharedT.abs ⟨T₀ w.params, n₀, life, gs, d, k, os⟩ = ⟨H₀ w.params, gs, d, k, os⟩ := by
    unfold SharedT.abs
    rw [tree]
  rw [ea] at r2
  have r3 := topRun_mono (N - M) _ _ _ _ r2
  rw [show M + (N - M) = N by have := Nat.le_of_ble_eq_true le; omega] at r3
  have t : topFrom treeTable p w N ⟨H₀ w.params, gs, d, k, os⟩ = some r.abs := by
    unfold topFrom
    dsimp only
    rw [z1, z2, z3, r3]
    show (match staticsOk (importedModules p.main.body) (H₀ w.params) r.abs.heap && namesBound p r.abs.heap && gensDone r.abs && laidKept (H₀ w.params) r.abs.heap with | true => _ | false => _) = _
    rw [l1]
  unfold openEnds
  rw [e]
  show (topFrom treeTable p w N _).map _ = _
  rw [t]
  exact congrArg some (Prod.ext l2 l3)
end L2
set_option Elab.async false
set_option linter.all false
set_option maxRecDepth 100000
set_option maxHeartbeats 1000000
namespace L2
open PySem PySem.W PySem.Calls PyProof.Rows
def partOf (as : List Addr) (h : Heap) : Frag := as.filterMap fun a => (h.get? a).map fun o => (a, o)
theorem partOf_in (h : Heap) : ∀ as : List Addr, (partOf as h).In h
  | [], a, o, e => by cases e
  | b :: l, a, o, e => by
    unfold partOf at e
    rw [List.filterMap_cons] at e
    cases hb : h.get? b with
    | none => rw [hb] at e; exact partOf_in h l a o e
    | some x =>
      rw [hb] at e
      have e : List.lookup a ((b, x) :: l.filterMap fun a => (h.get? a).map fun o => (a, o)) = some o := e
      rw [List.lookup_cons] at e
      cases q : a == b with
      | true =>
        rw [q] at e
        have eab : a = b := eq_of_beq q
        have e : some x = some o := e
        rw [eab, hb, e]
      | false => rw [q] at e; exact partOf_in h l a o e
def posOf (s : Stmt) : Pos := match s with
  | .FunctionDef _ _ _ _ _ _ _ _ _ p => p
  | _ => ⟨0, 0, 0, 0⟩
def dfOf (K : Frag) : Value → Option (Option (List Value))
  | .none => some none
  | .ref T => match K.lookup T with
    | some ⟨_, _, .seq vs _, _⟩ => some (some vs.toList)
    | _ => none
  | _ => none
abbrev Sig := (Str × Str × Addr × List (Str × Addr) × Option (Option (List Value)) × Addr) × (Bool × Bool) × Arguments × FuncBody × Scope
def fnLook (K : Frag) (v : Option (Option Value)) (qual : Str) : Option Sig := match v with
  | some (some (.ref f)) => match K.lookup f with
    | some ⟨_, _, .func fd, _⟩ => some ((fd.name, fd.qualname, fd.globals, fd.closure, dfOf K fd.defaults, fd.builtins), (codeIn K fd.code qual, isFn K (.ref f)), fd.params, fd.body, fd.scope)
    | _ => none
  | _ => none
def sigW (x qual : Str) (st : Stmt) (df : Option (List Value)) : Sig := ((x, qual, mainGlobals, [], some df, builtinsNs), (true, true), defArgs st, .stmts (defBody st), defScope st)
theorem keep_fn {K : Frag} {f : Addr} {oc : Value} {od : Option Addr} {fd : FuncData} {sl : Array (Option Value)} (l : K.lookup f = some ⟨oc, od, .func fd, sl⟩) : keepIn K (.ref f) = true := by
  unfold keepIn
  simp only [l]
theorem fnLook_ex {K : Frag} {v : Option (Option Value)} {x qual : Str} {st : Stmt} {df : Option (List Value)} (e : fnLook K v qual = some (sigW x qual st df)) :
    ∃ (f : Addr) (oc : Value) (od : Option Addr) (dV kV doc pm : Value) (an : Option Addr) (cdv ct : Value) (sl : Array (Option Value)), v = some (some (.ref f)) ∧ K.lookup f = some ⟨oc, od, .func (fnOf x qual (defArgs st) (defBody st) (defScope st) dV kV doc pm an cdv ct), sl⟩ ∧
      codeIn K cdv qual = true ∧ isFn K (.ref f) = true ∧ dfOf K dV = some df := by
  unfold fnLook at e
  split at e
  · rename_i f
    split at e
    · rename_i oc od fd sl hl
      obtain ⟨nm, qn, ps, bd, sc, gl, cl, dV, kV, doc, pm, an, cd, ct, bl⟩ := fd
      injection e with e
      injection e with e1 e2
      injection e1 with a1 e1
      injection e1 with a2 e1
      injection e1 with a3 e1
      injection e1 with a4 e1
      injection e1 with a5 a6
      injection e2 with e3 e4
      injection e3 with b1 b2
      injection e4 with c1 e4
      injection e4 with c2 c3
      dsimp only at a1 a2 a3 a4 a5 a6 b1 b2 c1 c2 c3
      subst a1 a2 a3 a4 a6 c1 c2 c3
      exact ⟨f, oc, od, dV, kV, doc, pm, an, cd, ct, sl, rfl, hl, b1, b2, a5⟩
    · cases e
  · cases e
theorem dfOf_none {K : Frag} {v : Value} (e : dfOf K v = some none) : v = .none := by
  unfold dfOf at e
  split at e
  · rfl
  · split at e <;> cases e
  · cases e
theorem fnLook_fun {K : Frag} {v : Option (Option Value)} {x qual : Str} {st : Stmt} (e : fnLook K v qual = some (sigW x qual st none)) : ∃ f fd, v = some (some (.ref f)) ∧ Fun K x qual st f fd ∧ isFn K (.ref f) = true := by
  obtain ⟨f, oc, od, dV, kV, doc, pm, an, cdv, ct, sl, hv, l, c, i, d⟩ := fnLook_ex e
  obtain rfl := dfOf_none d
  exact ⟨f, _, hv, fun_mk l c (keep_fn l), i⟩
inductive Ky where
  | df (x : Str)
  | me (c m qual : Str)
def Ky.val (K : Frag) : Ky → Option (Option Value)
  | .df x => nsIn K mainGlobals x
  | .me c m _ => match nsIn K mainGlobals c with
    | some (some v) => findIn K v m
    | _ => none
def Ky.qual : Ky → Str
  | .df x => x
  | .me _ _ q => q
def Ky.nm : Ky → Str
  | .df x => x
  | .me _ m _ => m
def clsLook (K : Frag) (c : Str × List Str) : Option (Bool × Option (Option Value) × List (Option (Option Value))) := match nsIn K mainGlobals c.1 with
  | some (some (.ref C)) => some (plainGet K C Str.empty && hasDictIn K C && plainOver K C && makesIn K C && keepIn K (.ref C), findIn K (.ref C) "__setattr__", c.2.map fun f => findIn K (.ref C) f)
  | _ => none
def intLook (K : Frag) (x : Str) : Option Int := match nsIn K mainGlobals x with
  | some (some (.int v _)) => some v
  | _ => none
def strLook (K : Frag) (x : Str) : Option Str := match nsIn K mainGlobals x with
  | some (some (.str v _)) => some v
  | _ => none
def refLook {β : Type} (K : Frag) (x : Str) (g : Frag → Addr → β) : Option β := match nsIn K mainGlobals x with
  | some (some (.ref d)) => some (g K d)
  | _ => none
structure Asked (β : Type) where
  ks : List (Ky × Stmt × Option (List Value))
  cs : List (Str × List Str) := []
  is : List (Str × Int) := []
  ss : List (Str × Str) := []
  bs : List Str := []
  xc : Frag → Bool := fun _ => true
  ext : Frag → β
  extW : World → β
section
variable {β : Type} (A : Asked β)
def Asked.look (K : Frag) := (A.ks.map fun k => fnLook K (k.1.val K) k.1.qual, A.cs.map (clsLook K), A.is.map fun x => intLook K x.1, A.ss.map fun x => strLook K x.1, A.bs.map fun x => nsIn K mainGlobals x, A.xc K, A.ext K)
def Asked.want (w : World) := (A.ks.map fun k => some (sigW k.1.nm k.1.qual k.2.1 k.2.2), A.cs.map fun c => some (true, some (some (Value.builtin "object.__setattr__")), c.2.map fun _ => some (none : Option Value)), A.is.map fun x => some x.2, A.ss.map fun x => some x.2, A.bs.map fun _ => some (none : Option Value), true, A.extW w)
def Asked.Ok (w : World) (K : Frag) : Prop := A.look K = A.want w
end
theorem map_at {α γ : Type} {l : List α} {f g : α → γ} (e : l.map f = l.map g) {i : Nat} {a : α} (h : l[i]? = some a) : f a = g a := by
  have z := congrArg (fun l => l[i]?) e
  simp only [List.getElem?_map, h, Option.map_some] at z
  injection z
section
variable {β : Type} {A : Asked β} {w : World} {K : Frag} {h : Heap} {mg : Str → Option Value}
theorem Asked.Ok.fn (e : A.Ok w K) {i : Nat} {k : Ky} {st : Stmt} {df : Option (List Value)} (hi : A.ks[i]? = some (k, st, df)) : fnLook K (k.val K) k.qual = some (sigW k.nm k.qual st df) := map_at (f := fun k : Ky × Stmt × Option (List Value) => fnLook K (k.1.val K) k.1.qual) (g := fun k => some (sigW k.1.nm k.1.qual k.2.1 k.2.2)) (congrArg Prod.fst e) hi
theorem Asked.Ok.defAt (e : A.Ok w K) (X : K.In h) (G : h.Ns mainGlobals mg) (i : Nat) {x : Str} {st : Stmt} {ps : List Str} (hi : A.ks[i]? = some (.df x, st, none))
    (hb : ∀ (kV doc pm : Value) (an : Option Addr) (cdv ct : Value) (us : List Value), us.length = ps.length → bindArgs (fnOf x x (defArgs st) (defBody st) (defScope st) .none kV doc pm an cdv ct) ⟨us, []⟩ = pure (ps.zip us)) : DefAt K mg x st ps := by
  obtain ⟨f, fd, hv, F, _⟩ := fnLook_fun (e.fn hi)
  exact ⟨f, fd, F, mg_of X G hv, F.binds hb⟩
theorem Asked.Ok.law (e : A.Ok w K) (X : K.In h) (G : h.Ns mainGlobals mg) (i : Nat) {x : Str} {st : Stmt} {fa : Addr} (hi : A.ks[i]? = some (.df x, st, none)) (hm : mg x = some (.ref fa)) :
    ∃ kV doc pm an cdv ct, Fun K x x st fa (fnOf x x (defArgs st) (defBody st) (defScope st) .none kV doc pm an cdv ct) := by
  obtain ⟨f, oc, od, dV, kV, doc, pm, an, cdv, ct, sl, hv, l, c, _, d⟩ := fnLook_ex (e.fn hi)
  obtain rfl := dfOf_none d
  have z := hm.symm.trans (mg_of X G hv)
  injection z with z
  injection z with z
  subst z
  exact ⟨kV, doc, pm, an, cdv, ct, fun_mk l c (keep_fn l)⟩
theorem Asked.Ok.cls (e : A.Ok w K) (X : K.In h) (G : h.Ns mainGlobals mg) (i : Nat) {x : Str} {fs : List Str} (hi : A.cs[i]? = some (x, fs)) : ∃ C, nsIn K mainGlobals x = some (some (.ref C)) ∧ makesIn K C = true ∧ keepIn K (.ref C) = true ∧ ClsAt K mg x C fs := by
  have z := map_at (f := clsLook K) (g := fun c => some (true, some (some (Value.builtin "object.__setattr__")), c.2.map fun _ => some (none : Option Value))) (congrArg (fun p => p.2.1) e) hi
  unfold clsLook at z
  split at z
  · rename_i C hC
    injection z with z
    injection z with z1 z2
    injection z2 with z2 z3
    simp only [Bool.and_eq_true] at z1
    obtain ⟨⟨⟨⟨g1, g2⟩, g3⟩, g4⟩, g5⟩ := z1
    refine ⟨C, hC, g4, g5, ⟨g1, g2, g3, z2⟩, mg_of X G hC, fun f hf => ?_⟩
    obtain ⟨j, hj⟩ := List.mem_iff_getElem?.mp hf
    exact map_at (f := fun f => findIn K (.ref C) f) (g := fun _ => some (none : Option Value)) z3 hj
  · cases z
theorem Asked.Ok.mkAt (e : A.Ok w K) (i : Nat) {c qual : Str} {C : Addr} {st : Stmt} {ps : List Str} (hC : nsIn K mainGlobals c = some (some (.ref C))) (hm : makesIn K C = true) (hk : keepIn K (.ref C) = true) (hi : A.ks[i]? = some (.me c "__init__" qual, st, none))
    (hb : ∀ (kV doc pm : Value) (an : Option Addr) (cdv ct : Value) (us : List Value), us.length = ps.length → bindArgs (fnOf "__init__" qual (defArgs st) (defBody st) (defScope st) .none kV doc pm an cdv ct) ⟨us, []⟩ = pure (ps.zip us)) : MkAt K C qual st ps := by
  obtain ⟨f, fd, hv, F, i⟩ := fnLook_fun (e.fn hi)
  have hv : (match nsIn K mainGlobals c with | some (some v) => findIn K v "__init__" | _ => none) = some (some (.ref f)) := hv
  rw [hC] at hv
  exact ⟨f, fd, F, ⟨hm, hv, i, hk⟩, F.binds hb⟩
theorem Asked.Ok.int (e : A.Ok w K) (X : K.In h) (G : h.Ns mainGlobals mg) (i : Nat) {x : Str} {v : Int} (hi : A.is[i]? = some (x, v)) : ∃ t, mg x = some (.int v t) := by
  have z := map_at (f := fun x : Str × Int => intLook K x.1) (g := fun x => some x.2) (congrArg (fun p => p.2.2.1) e) hi
  unfold intLook at z
  split at z
  · rename_i u t hC
    injection z with z
    dsimp only at z hC
    subst z
    exact ⟨t, mg_of X G hC⟩
  · cases z
theorem Asked.Ok.str (e : A.Ok w K) (X : K.In h) (G : h.Ns mainGlobals mg) (i : Nat) {x : Str} {v : Str} (hi : A.ss[i]? = some (x, v)) : ∃ t, mg x = some (.str v t) := by
  have z := map_at (f := fun x : Str × Str => strLook K x.1) (g := fun x => some x.2) (congrArg (fun p => p.2.2.2.1) e) hi
  unfold strLook at z
  split at z
  · rename_i u t hC
    injection z with z
    dsimp only at z hC
    subst z
    exact ⟨t, mg_of X G hC⟩
  · cases z
theorem Asked.Ok.noneAt (e : A.Ok w K) (X : K.In h) (G : h.Ns mainGlobals mg) (i : Nat) {x : Str} (hi : A.bs[i]? = some x) : mg x = Option.none :=
  mg_none_of X G (map_at (f := fun x => nsIn K mainGlobals x) (g := fun _ => some (none : Option Value)) (congrArg (fun p => p.2.2.2.2.1) e) hi)
theorem Asked.Ok.exc (e : A.Ok w K) : A.xc K = true := congrArg (fun p => p.2.2.2.2.2.1) e
theorem Asked.Ok.more (e : A.Ok w K) : A.ext K = A.extW w := congrArg (fun p => p.2.2.2.2.2.2) e
theorem refLook_at {γ : Type} {x : Str} {g : Frag → Addr → γ} {v : γ} (X : K.In h) (G : h.Ns mainGlobals mg) (e : refLook K x g = some v) : ∃ d, mg x = some (.ref d) ∧ g K d = v := by
  unfold refLook at e
  split at e
  · rename_i d hC
    injection e with e
    exact ⟨d, mg_of X G hC, e⟩
  · cases e
end
theorem walk_ex {l : OpenLaw} {n k : Nat} {q : Program} {loose : List Str} {XP : (Str → Option Value) → Heap → Prop} {d : DefRec} {Fc : World → Frag → Prop} {sp : Frag → Sp} {x nm : Str}
    (hn : l.most = some n) (hn2 : n ≤ sizeLine) (hdf : d.params.defaults = []) (hr : Room k callerA) (hnm : d.name = nm)
    (F : ∀ (w : World) (K : Frag) (mg : Str → Option Value) (fa : Addr) (h : Heap), Fc w K → K.In h → h.Ns mainGlobals mg → mg nm = some (.ref fa) →
      ∃ fd : FuncData, (∀ (s : Shared) (u : Value), BindsTo s fd ⟨[u], []⟩ [(x, u)]) ∧ ∀ base : Heap, K.In base → base.Ns mainGlobals mg → FnOk l.prog w K mg base CX0 k fa fd [x] (sp K))
    (hsp : ∀ (K : Frag) (H : Hp) (a : Addr) (ns : List Int), ns.length ≤ n → Only H → SqL K H a (ns.map V.int) → sp K [.ref a] H (fun v _ => v = .bl true) fun _ _ _ => False)
    (hCX : ∀ (H : Hp) (s : Shared) (e : Value) (s' : Shared), CX0 [] H s (fun _ _ _ => False) e s' → False) :
    WalkO q loose XP (fun w h => ∃ K : Frag, K.In h ∧ Fc w K) l.row.toRowW d [] (fun f vs => PySem.call f vs) := by
  refine Att.attach_call hn hdf fun w s₀ s₁ mg mb fa o pm cd doc a vs ns G Y ho hd hcd hmg hobj hints hlen hg => ?_
  obtain ⟨K, KX, fc⟩ := Y
  rw [hnm] at hmg
  obtain ⟨fd, hb, hF⟩ := F w K mg fa _ fc KX G.T.g hmg
  exact law_call KX G.T.g G.T.b G.T.builtins G.T.nolimit hg hobj hints (Nat.le_trans hlen hn2) hr hF hb (fun H hO hS => hsp K H a ns hlen hO hS) fun H e s' => hCX H s₁ e s'
end L2
set_option Elab.async false
set_option linter.all false
set_option maxRecDepth 100000
set_option maxHeartbeats 1000000
namespace L2
open PySem PySem.W PySem.Calls PyProof.Rows
section
variable {w : World} {K : Frag} {h : Heap} {mg : Str → Option Value} {x : Str}
def tabLook (K : Frag) (d : Addr) := (d == sysModules, tabOf K d)
theorem ktup_of {xs : List Str} (X : K.In h) (G : h.Ns mainGlobals mg) (e : refLook K x tupOf = some (some xs)) : KTupAt K mg x xs := refLook_at X G e
theorem ktab_of {tab : List (Str × List Str)} (X : K.In h) (G : h.Ns mainGlobals mg) (e : refLook K x tabLook = some (false, some (tab.map fun p => (hashStr w p.1, p.1, p.2)))) : KTabAt w K mg x tab := by
  obtain ⟨d, hm, hd⟩ := refLook_at X G e
  injection hd with h1 h2
  exact ⟨d, hm, h1, h2⟩
end
end L2
set_option Elab.async false
set_option linter.all false
set_option maxRecDepth 100000
set_option maxHeartbeats 1000000
namespace L2
open PySem PySem.Spec PyProof.Rows
def tGTabF (P : Program) (w : World) (K : PySem.W.Frag) (tab : List (Str × List Str)) : TE := fun _ H Q => ∀ (d : Addr) (kvs : List (Key × V)), KDict P w K d kvs → (∀ p ∈ tab, ∃ a, valV kvs (.inr p.1) = some (.ref a) ∧ ∀ H', SqT K H' a (p.2.map V.str)) → (∀ s : Str, s ∉ tab.map (·.1) → valV kvs (.inr s) = none) → Q (.ref d) H
theorem valV_none {kvs : List (Key × V)} {k : Key} (h : k ∉ kvs.map (·.1)) : valV kvs k = none := by
  unfold valV
  rw [List.find?_eq_none.mpr fun p hp => ?_]
  · rfl
  · intro z
    have e : p.1 = k := by simpa using z
    exact h (List.mem_map.mpr ⟨p, hp, e⟩)
theorem pe_gtabF {X : Cx} {x : Str} {tab : List (Str × List Str)} {pos : Pos} (hm : KTabAt X.w X.K X.mg x tab) (nd : (tab.map (·.1)).Nodup := by decide +kernel) (hg : Gl X x := by rfl) (hd : (x == ("__debug__" : Str)) = false := by decide) : PE X (.Name x pos) (tGTabF X.prog X.w X.K tab) := by
  obtain ⟨d, hm, hs, ht⟩ := hm
  intro pins s σ H Q I h
  obtain ⟨kvs, k1, k2, k3⟩ := tab_at (P := X.prog) hs ht nd
  refine pe_glob (v := .ref d) hg hm rfl hd pins s σ H Q I (h d kvs k1 (fun p hp => ?_) fun z hz => ?_)
  · obtain ⟨i, hi⟩ := List.getElem?_of_mem hp
    obtain ⟨a, ha, hq⟩ := k3 i p hi
    exact ⟨a, keys_find nd k2 ha, hq⟩
  · refine valV_none fun hm => ?_
    rw [k2] at hm
    obtain ⟨p, hp, e⟩ := List.mem_map.mp hm
    exact hz (List.mem_map.mpr ⟨p, hp, Sum.inr.inj e⟩)
end L2
set_option Elab.async false
set_option linter.all false
set_option maxRecDepth 100000
set_option maxHeartbeats 1000000
namespace L2
open PySem PySem.Spec PyProof.Rows
section
variable {X : Cx} {pos : Pos}
end
section
variable {X : Cx} {pins : List (Addr × Obj)} {σ : St} {H : Hp} {s : Shared}
end
section
variable {X : Cx}
end
end L2
set_option Elab.async false
set_option linter.all false
set_option maxRecDepth 100000
set_option maxHeartbeats 1000000
namespace L2
open PySem PySem.Spec PyProof.Rows Builtin Builtin.Str
def rep1 (x y z : Str) : Str := if ((occurrences x y 0 x.length 1).isEmpty || (y.length == 0 && z.length == 0)) = true then x else glued z (partsBetween x (occurrences x y 0 x.length 1) y.length)
theorem gives_replace1 (x y z : Str) (t u v w : Tok) (h0 : (u == 0 || v == 0) = false) (huv : (u == v) = false) (hyz : (y == z) = false) (hl : tooLong (x.length + (occurrences x y 0 x.length 1).length * z.length) = false) :
    Gives («str.replace» ⟨[.str x t, .str y u, .str z v, .int 1 w], []⟩) (if ((occurrences x y 0 x.length 1).isEmpty || (y.length == 0 && z.length == 0)) = true then .val (.str x t) else .str (glued z (partsBetween x (occurrences x y 0 x.length 1) y.length))) := by
  show Gives (if ((occurrences x y 0 x.length 1).isEmpty || (y.length == 0 && z.length == 0)) = true then (do rule "str.replace.nothing"; ret (.str x t)) else
          (do let same ← isSame (.str y u) (.str z v)
              if same = true then (do rule "str.replace.old-is-new"; ret (.str x t)) else
              if tooLong (x.length + (occurrences x y 0 x.length 1).length * z.length) = true then unsupported "str.replace:memory" else
              retStr (glued z (partsBetween x (occurrences x y 0 x.length 1) y.length)))) _
  cases hc : ((occurrences x y 0 x.length 1).isEmpty || (y.length == 0 && z.length == 0))
  · rw [isSame_str_other y z u v h0 huv hyz, hl]
    exact .of_eq rfl
  · exact .rule (.of_eq rfl)
section
variable {prog : Program} {w : World} {A : Around} {E : Value → Shared → Prop} {s : Shared} {x y z : Str} {t u v k : Tok} {Q : Value → Shared → Prop}
theorem call_replace1 (hu : u ≠ 0) (hv : v ≠ 0) (huv : u ≠ v) (hyz : (y == z) = false) (hb : x.length ≤ 100000) (hz : z.length ≤ 100) (hr : (rep1 x y z).length ≤ sizeLine)
    (hq : ∀ t' k, Q (.str (rep1 x y z) t') { s with toks := k }) : wpAny (model prog w) A (call (.builtin "str.replace") [.str x t, .str y u, .str z v, .int 1 k]) Q E s := by
  have hl : tooLong (x.length + (occurrences x y 0 x.length 1).length * z.length) = false := by
    have h1 := StrLaws.occ_length_le x y 0 x.length 1
    have h2 : (occurrences x y 0 x.length 1).length * z.length ≤ 1 * 100 := Nat.mul_le_mul h1 hz
    unfold tooLong
    rw [sizeLine_eq]
    exact decide_eq_false (by omega)
  refine call_gives F.slot_str_replace (typeIs_str _ _ _) F.entry_str_replace (F.args_str_replace_4 _ _ _ _) (gives_replace1 x y z t u v k (by simp [hu, hv]) (by simp [huv]) hyz hl) ?_
  unfold rep1 at hq hr
  cases hc : ((occurrences x y 0 x.length 1).isEmpty || (y.length == 0 && z.length == 0))
  · rw [hc] at hq hr
    simp only [Bool.false_eq_true, if_false] at hq hr ⊢
    exact ⟨hr, hq _ _⟩
  · rw [hc] at hq
    simp only [if_true] at hq ⊢
    exact hq t s.toks
end
section
variable {X : Cx}
def PCs (X : Cx) (es : List Expr) (zs : List Str) : Prop := ∀ (pos' : Pos) (E : Value → Shared → Prop) (s : Shared) (Q : List Value → Shared → Prop), (∀ (its : List Value) (k : Nat), Paired (fun z v => ∃ t, v = Value.str z t ∧ s.toks ≤ t) zs its → s.toks ≤ k → Q its { s with toks := k }) → wpAny (model X.prog X.w) X.A (spliced (backTo pos' (starEach es X.env))) Q E s
theorem pcs_nil : PCs X [] [] := fun pos' E s Q h => Calls.spliced_nil (h [] s.toks .nil (Nat.le_refl _))
theorem pcs_cons {z : Str} {j : Nat} {p : Pos} {es : List Expr} {zs : List Str} (h : PCs X es zs) (hs : starEach (.Constant (.str z) j p :: es) X.env = (false, eval (.Constant (.str z) j p) X.env) :: starEach es X.env := by rfl) : PCs X (.Constant (.str z) j p :: es) (z :: zs) := by
  intro pos E s Q h'
  rw [hs]
  show wpAny _ _ (spliced ((false, eval _ X.env) :: backTo pos (starEach es X.env))) _ _ s
  refine Calls.spliced_cons (Calls.Constant_str ?_)
  refine h pos E _ _ fun its k pr le => ?_
  have le' : s.toks + 1 ≤ k := le
  exact h' _ k (.cons ⟨_, rfl, Nat.le_refl _⟩ (Paired.mapP pr fun _ _ ⟨t, e, q⟩ => ⟨t, e, by have : s.toks + 1 ≤ t := q; omega⟩)) (by omega)
theorem ld_var {pins : List (Addr × Obj)} {s : Shared} {σ : St} {H : Hp} {E : Value → Shared → Prop} {i : Nat} {x : Str} {pos : Pos} {v : V} {Q : Value → Shared → Prop} (I : Inv X pins σ H s) (hN : X.N[i]? = some x) (hv : Vis X.env.scope x) (e : σ[i]? = some (some v)) (h : ∀ u, RelV v u → Q u s)
    (hd : (x == ("__debug__" : Str)) = false := by decide) (hcd : (x == ("__classdict__" : Str)) = false := by decide) : wpAny (model X.prog X.w) X.A (eval (.Name x pos) X.env) Q E s := by
  obtain ⟨m, hn, hl⟩ := I.loc
  obtain ⟨u, r, l⟩ := hl i x v hN e hv
  rcases l with ⟨hk, hm⟩ | ⟨hk, c, hc, hcell⟩
  · exact wpAny_Name (wpAny_loadName_local I.ok.kind hk hn hm (h u r)) hd
  · rcases hk with hk | hk
    · exact wpAny_Name (wpAny_loadName_cell I.ok.kind hk hc hcell (h u r)) hd
    · exact wpAny_Name (wpAny_loadName_free I.ok.kind hk hc hcell (h u r) hcd) hd
def tIfRep (i o : Nat) (c : Int) (y : Str) (zs : List Str) (tix : TE) : TS := fun D σ H => ∃ z, σ[i]? = some (some (.int z)) ∧ (z = c → ∃ x, σ[o]? = some (some (.str x)) ∧ tix σ H fun v H1 => ∃ (n : Nat) (zz : Str), v = .int n ∧ zs[n]? = some zz ∧ (y == zz) = false ∧ x.length ≤ 100000 ∧ zz.length ≤ 100 ∧ (rep1 x y zz).length ≤ sizeLine ∧ D.rt (.str (rep1 x y zz)) H1) ∧ (z ≠ c → D.nx σ H)
theorem ps_ifRep {i o : Nat} {kx ox : Str} {c : Int} {y : Str} {es : List Expr} {zs : List Str} {ix : Expr} {tix : TE} {j1 j2 j3 : Nat} {p1 p2 p3 p4 p5 p6 p7 p8 p9 p10 apos cpos : Pos} (hi : X.N[i]? = some kx) (hvi : Vis X.env.scope kx) (ho : X.N[o]? = some ox) (hvo : Vis X.env.scope ox) (hcs : PCs X es zs) (hix : PE X ix tix) (hs : PlainIx ix) (hz : zs.length ≤ 100)
    (hd1 : (kx == ("__debug__" : Str)) = false := by decide) (hcd1 : (kx == ("__classdict__" : Str)) = false := by decide) (hd2 : (ox == ("__debug__" : Str)) = false := by decide) (hcd2 : (ox == ("__classdict__" : Str)) = false := by decide)
    (hbase : attributeBase (.Name ox p4) "replace" X.env (eval (.Name ox p4) X.env) = eval (.Name ox p4) X.env := by rfl)
    (hfew : ((backTo cpos (starEach [.Constant (.str y) j2 p5, .Subscript (.List es p6) ix p7, .Constant (.int 1) j3 p8] X.env)).all (fun x => !x.1) && (backToKw cpos (keywordEach [] X.env)).all (fun x => x.1.isSome)
      && decide (([.Constant (.str y) j2 p5, .Subscript (.List es p6) ix p7, .Constant (.int 1) j3 p8] : List Expr).length + ([] : List Keyword).length + (if ([] : List Keyword).isEmpty then 0 else 1) < 30)) = true := by rfl)
    (hline : (apos.endLine == cpos.line) = true := by rfl)
    (htr : backTo cpos (starEach [.Constant (.str y) j2 p5, .Subscript (.List es p6) ix p7, .Constant (.int 1) j3 p8] X.env) = [(false, eval (.Constant (.str y) j2 p5) X.env), (false, eval (.Subscript (.List es p6) ix p7) X.env), (false, eval (.Constant (.int 1) j3 p8) X.env)] := by rfl) :
    PS X (.If (.Compare (.Name kx p1) [.Eq] [.Constant (.int c) j1 p2] p3) [.Return (some (.Call (.Attribute (.Name ox p4) "replace" apos) [.Constant (.str y) j2 p5, .Subscript (.List es p6) ix p7, .Constant (.int 1) j3 p8] [] cpos)) p9] [] p10) (tIfRep i o c y zs tix) := by
  intro pins s σ H D I h
  obtain ⟨z, ez, h1, h2⟩ := h
  refine wpAny_If (wpAny_isTrue_Compare1 (ld_var I hi hvi ez (fun u ru => ?_) hd1 hcd1) (nobehind _ (by decide) (by decide)))
  obtain ⟨t, rfl⟩ := ru
  refine wpAny_Constant_int (eq_int (wpAny_truthy_bool ?_))
  have I1 : Inv X pins σ H { s with toks := s.toks + 1 } := I.tok _
  cases hb : (z == c) with
  | false => exact wpAny_execs_nil ⟨σ, H, I1, h2 (by simpa using hb)⟩
  | true =>
    obtain ⟨x, ex, h3⟩ := h1 (by simpa using hb)
    refine wpAny_execs_cons (wpAny_Return_some (wpAny_Call_method_late hbase hfew hline htr (ld_var I1 ho hvo ex (fun u ru => ?_) hd2 hcd2)))
    obtain ⟨tx, rfl⟩ := ru
    refine ⟨"str", "str.replace", PySem.F.plainAttrs_str, PySem.F.slot_str_replace, PySem.F.type_str_replace, typeIs_str _ _ _, (fun a e => by cases e), ?_⟩
    refine Calls.callWith_builtin rfl (Calls.evalArgs_plain (Calls.spliced_cons (Calls.Constant_str ?_)))
    refine Calls.spliced_cons (Subscript_ (wpAny_List_spliced (hcs _ _ _ _ fun its k pr le => ⟨?_, ?_⟩)))
    · rw [← pr.length]; exact Nat.le_trans hz (small (m := 1000) (by omega))
    have s1h : ∀ b o, s.heap.get? b = some o → (s.heap.push { cls := .type "list", data := .seq its.toArray }).get? b = some o := fun b o e => Heap.get?_push_of_some _ e
    have I2 : Inv X pins σ H { s with heap := s.heap.push { cls := .type "list", data := .seq its.toArray }, toks := k } := I.kept s1h
    have here : (s.heap.push { cls := .type "list", data := .seq its.toArray }).get? s.heap.objs.size = some { cls := .type "list", data := .seq its.toArray } := Heap.get?_push_size _ rfl
    have I3 := I2.pinned (fp := [s.heap.objs.size]) (fun b hb => by rw [List.mem_singleton.mp hb]; exact I.fpOk (Nat.le_refl _) (I.hok.fresh (Nat.le_refl _))) (fun b hb => by
      rw [List.mem_singleton.mp hb]
      exact ⟨_, here, fun v e => by cases e⟩)
    refine thn (hix _ _ σ H _ I3 h3) fun iv s3 hm0 => ?_
    obtain ⟨v, H1, I4, rv, n, zz, rfl, hn, hyz, hx, hzz, hr, q⟩ := hm0
    obtain ⟨ti, rfl⟩ := rv
    have pin : s3.heap.get? s.heap.objs.size = some { cls := .type "list", data := .seq its.toArray } := (I4.pin (s.heap.objs.size, { cls := .type "list", data := .seq its.toArray }) (by
      refine List.mem_append_right _ (List.mem_append_right _ ?_)
      unfold pinsAt
      simp [here])).1
    have il : s3.heap.IsList s.heap.objs.size its.toArray := ⟨_, pin, rfl, _, rfl⟩
    obtain ⟨it, hit, tz, rfl, htz⟩ := L2.Paired.at pr hn
    have nl : n < 100 := by have := (List.getElem?_eq_some_iff.mp hn).1; omega
    refine item_listR il (by omega) (by omega) (by simpa using hit) ?_ (hs _ _)
    refine Calls.spliced_cons (wpAny_Constant_int (Calls.spliced_nil ?_))
    have I5 := I4.unpinned
    have tz' : s.toks + 1 + 1 ≤ tz := htz
    have hu : s.toks + 1 ≠ 0 := by omega
    have hv : tz ≠ 0 := fun e => by
      rw [e] at tz'
      exact absurd tz' (Nat.not_succ_le_zero _)
    have huv : s.toks + 1 ≠ tz := fun e => by
      rw [← e] at tz'
      exact absurd tz' (Nat.not_succ_le_self _)
    exact call_replace1 hu hv huv hyz hx hzz hr fun t' k' => ⟨.str (rep1 x y zz), σ, H1, I5.tok _, ⟨_, rfl⟩, q⟩
end
def repS (x : Str) (n : Int) : Str := ⟨(List.replicate n.toNat x.cps).foldl (· ++ ·) #[]⟩
theorem op_mul_str {X : Cx} : OpR X (binaryOp .Mult) (fun x y H Q => ∃ (z : Str) (n : Int), x = .str z ∧ y = .int n ∧ 1 < n ∧ n ≤ 100 ∧ 1 ≤ z.length ∧ z.length ≤ 1000 ∧ (repS z n).length ≤ sizeLine ∧ Q (.str (repS z n)) H) := by
  intro pins s σ H x y v u Q I rx ry h
  obtain ⟨z, n, rfl, rfl, n1, n2, z1, z2, hr, q⟩ := h
  obtain ⟨t, rfl⟩ := rx
  obtain ⟨t', rfl⟩ := ry
  have e1 : (n == 1 || z.length == 0) = false := by simp; omega
  refine PySem.P.mul_str (by simp; omega) (fun _ _ => by
    have h1 : (z.length : Int) * n ≤ 2 ^ 63 - 1 := Int.le_trans (Int.mul_le_mul (show (z.length : Int) ≤ 1000 by omega) n2 (by omega) (by decide)) (by decide)
    have := Int.le_ediv_of_mul_le (by omega) h1
    omega) (fun _ _ => ?_) ?_
  · unfold tooLong
    rw [sizeLine_eq]
    refine decide_eq_false ?_
    have : z.length * n.toNat ≤ 1000 * 100 := Nat.mul_le_mul z2 (by omega)
    omega
  · rw [if_neg (by omega), e1]
    exact ⟨hr, .str (repS z n), H, I.tok _, ⟨_, rfl⟩, q⟩
section
variable {X : Cx} {K : PySem.W.Frag}
theorem call_isiEK (hK : X.K = K) : CallR X (.builtin "isinstance") (fun xs H Q => ∃ e C D b, xs = [.ref e, .ref D] ∧ H e = some (xcO e C) ∧ XcK K C ∧ PySem.W.kitOne K (.ref C) (.ref D) = some b ∧ Q (.bl b) H) := by subst hK; exact call_isiE
theorem call_isiVK {T : String} (hK : X.K = K) : CallR X (.builtin "isinstance") (fun xs H Q => ∃ e C b, xs = [.ref e, .ty T] ∧ H e = some (xcO e C) ∧ XcK K C ∧ PySem.W.kitOne K (.ref C) (.type T) = some b ∧ Q (.bl b) H) := by subst hK; exact call_isiV
theorem call_isiTK (hK : X.K = K) : CallR X (.builtin "isinstance") (fun xs H Q => ∃ e C tp, ∃ cs : List Addr, xs = [.ref e, .ref tp] ∧ H e = some (xcO e C) ∧ XcK K C ∧ H tp = some (.tup (cs.map V.ref)) ∧ (∀ c ∈ cs, PySem.W.kitOne K (.ref C) (.ref c) = some false) ∧ Q (.bl false) H) := by subst hK; exact call_isiT
end
end L2
set_option Elab.async false
set_option linter.all false
set_option maxRecDepth 100000
set_option maxHeartbeats 4000000
namespace L2
open PySem PySem.Spec PyProof.Rows
inductive Lits : List Expr → List Str → Prop where
  | nil : Lits [] []
  | cons {z : Str} {p : Pos} {es : List Expr} {zs : List Str} (h : Lits es zs) : Lits (.Constant (.str z) 0 p :: es) (z :: zs)
def tLits (zs : List Str) : TA := fun _ H Q => Q (zs.map V.str) H
theorem pa_lits {X : Cx} {es : List Expr} {zs : List Str} (h : Lits es zs) : PA X es (tLits zs) := by
  induction h with
  | nil => exact pa_nil
  | @cons z p es zs _ ih => exact pa_cons (e := .Constant (.str z) 0 p) (es := es) (te := tC _) pe_str ih rfl
theorem pe_strs {X : Cx} {es : List Expr} {zs : List Str} {pos : Pos} (h : Lits es zs) : PE X (.List es pos) (tLst (tLits zs)) := pe_lst (pa_lits h)
structure QA (X : Cx) (es : List Expr) (t : TA) : Prop where
  h : PA X es t
theorem qa_nil {X : Cx} : QA X [] tNil := ⟨pa_nil⟩
theorem qa_cons {X : Cx} {e : Expr} {es : List Expr} {te : TE} {t : TA} (he : PE X e te) (hr : QA X es t) (hs : starEach (e :: es) X.env = (false, eval e X.env) :: starEach es X.env := by rfl) : QA X (e :: es) (tCons te t) := ⟨pa_cons he hr.h hs⟩
theorem qa_weak {X : Cx} {es : List Expr} {t t' : TA} (h : QA X es t) (k : ∀ σ H Q, t' σ H Q → t σ H Q) : QA X es t' := ⟨fun pos pins s σ H Q I h' => h.h pos pins s σ H Q I (k σ H Q h')⟩
theorem pe_lstQ {X : Cx} {es : List Expr} {t : TA} {pos : Pos} (h : QA X es t) : PE X (.List es pos) (tLst t) := pe_lst h.h
theorem pcs_lits {X : Cx} {es : List Expr} {zs : List Str} (h : Lits es zs) : PCs X es zs := by
  induction h with
  | nil => exact pcs_nil
  | @cons z p es zs _ ih => exact pcs_cons ih rfl
def putL (s : Stmt) (L : List Expr) : Stmt := match s with
  | .If t [.Assign tg (.Subscript (.List _ p) i q) r] o u => .If t [.Assign tg (.Subscript (.List L p) i q) r] o u
  | .If t [.Assign tg (.List _ p) r, s2] o u => .If t [.Assign tg (.List L p) r, s2] o u
  | s => s
def getL (s : Stmt) : List Expr := match s with
  | .If _ [.Assign _ (.Subscript (.List l _) _ _) _] _ _ => l
  | .If _ [.Assign _ (.List l _) _, _] _ _ => l
  | _ => []
def stN (s : Stmt) (k : Nat) : Stmt := (defBody s).getD k (.Pass ⟨0, 0, 0, 0⟩)
end L2
set_option Elab.async false
set_option linter.all false
set_option maxRecDepth 100000
set_option maxHeartbeats 4000000
namespace L2
open PySem PySem.Spec PyProof.Rows
inductive Au where
  | s0 | s1 | s2 | s3 | s4 | w0 | nm (k : Nat) | bl | zr | dg (k : Nat) | pt | dead
  deriving DecidableEq
def isL (c : Nat) : Bool := decide (97 ≤ c) && decide (c ≤ 122)
def isG (c : Nat) : Bool := decide (48 ≤ c) && decide (c ≤ 57)
def is13 (c : Nat) : Bool := decide (49 ≤ c) && decide (c ≤ 51)
def stepA : Au → Nat → Au
  | .s0, c => if is13 c = true then .s1 else .dead
  | .s1, c => if c = 32 then .s2 else .dead
  | .s2, c => if is13 c = true then .s3 else .dead
  | .s3, c => if c = 58 then .s4 else .dead
  | .s4, c => if c = 32 then .w0 else .dead
  | .w0, c => if isL c = true then .nm 1 else .dead
  | .nm k, c => if isL c = true then (if k < 8 then .nm (k + 1) else .dead) else if c = 32 then .bl else if c = 59 then .pt else .dead
  | .bl, c => if c = 48 then .zr else if isG c = true then .dg 1 else .dead
  | .zr, c => if c = 32 then .bl else if c = 59 then .pt else .dead
  | .dg k, c => if isG c = true then (if k < 9 then .dg (k + 1) else .dead) else if c = 32 then .bl else if c = 59 then .pt else .dead
  | .pt, c => if c = 32 then .w0 else .dead
  | .dead, _ => .dead
def runA (q : Au) (l : List Nat) : Au := l.foldl stepA q
def accA : Au → Bool
  | .s4 => true | .nm _ => true | .zr => true | .dg _ => true | _ => false
def midA : Au → Bool
  | .nm _ => true | .zr => true | .dg _ => true | _ => false
theorem run_app (q : Au) (a b : List Nat) : runA q (a ++ b) = runA (runA q a) b := List.foldl_append
theorem run_cons (q : Au) (c : Nat) (l : List Nat) : runA q (c :: l) = runA (stepA q c) l := rfl
theorem run_dead : ∀ l, runA .dead l = .dead
  | [] => rfl
  | _ :: l => run_dead l
theorem mid_acc {q : Au} (h : midA q = true) : accA q = true := by cases q <;> first | rfl | cases h
theorem mid_32 {q : Au} (h : midA q = true) : stepA q 32 = .bl := by
  cases q <;> first | rfl | (cases h; done)
theorem mid_59 {q : Au} (h : midA q = true) : stepA q 59 = .pt := by
  cases q <;> first | rfl | (cases h; done)
theorem mid_10 {q : Au} (h : midA q = true) : stepA q 10 = .dead := by
  cases q <;> first | rfl | (cases h; done)
theorem mid_58 {q : Au} (h : midA q = true) : stepA q 58 = .dead := by
  cases q <;> first | rfl | (cases h; done)
theorem run_nm : ∀ (l : List Nat) (k : Nat), (∀ c ∈ l, isL c = true) → k + l.length ≤ 8 → runA (.nm k) l = .nm (k + l.length)
  | [], _, _, _ => rfl
  | c :: l, k, h, hk => by
    have hk' : k + (l.length + 1) ≤ 8 := hk
    rw [run_cons]
    have e : stepA (.nm k) c = .nm (k + 1) := by
      show (if isL c = true then (if k < 8 then Au.nm (k + 1) else .dead) else _) = _
      rw [if_pos (h c List.mem_cons_self), if_pos (by omega)]
    rw [e, run_nm l (k + 1) (fun d hd => h d (List.mem_cons_of_mem _ hd)) (by omega), List.length_cons]
    congr 1; omega
structure NameL (l : List Nat) : Prop where
  one : 1 ≤ l.length
  few : l.length ≤ 8
  all : ∀ c ∈ l, isL c = true
structure NumL (l : List Nat) : Prop where
  one : 1 ≤ l.length
  few : l.length ≤ 9
  all : ∀ c ∈ l, isG c = true
  lead : l = [48] ∨ ∀ r, l ≠ 48 :: r
theorem run_name {l : List Nat} (h : NameL l) : midA (runA .w0 l) = true := by
  obtain ⟨h1, h2, h3⟩ := h
  cases l with
  | nil => simp at h1
  | cons c l =>
    have h2' : l.length + 1 ≤ 8 := h2
    rw [run_cons]
    have e : stepA .w0 c = .nm 1 := if_pos (h3 c List.mem_cons_self)
    rw [e, run_nm l 1 (fun d hd => h3 d (List.mem_cons_of_mem _ hd)) (by omega)]
    rfl
theorem run_dg : ∀ (l : List Nat) (k : Nat), (∀ c ∈ l, isG c = true) → k + l.length ≤ 9 → runA (.dg k) l = .dg (k + l.length)
  | [], _, _, _ => rfl
  | c :: l, k, h, hk => by
    have hk' : k + (l.length + 1) ≤ 9 := hk
    rw [run_cons]
    have e : stepA (.dg k) c = .dg (k + 1) := by
      show (if isG c = true then (if k < 9 then Au.dg (k + 1) else .dead) else _) = _
      rw [if_pos (h c List.mem_cons_self), if_pos (by omega)]
    rw [e, run_dg l (k + 1) (fun d hd => h d (List.mem_cons_of_mem _ hd)) (by omega), List.length_cons]
    congr 1; omega
theorem run_num {l : List Nat} (h : NumL l) : midA (runA .bl l) = true := by
  obtain ⟨h1, h2, h3, h4⟩ := h
  cases l with
  | nil => simp at h1
  | cons c l =>
    have h2' : l.length + 1 ≤ 9 := h2
    by_cases c0 : c = 48
    · subst c0
      rcases h4 with h4 | h4
      · injection h4 with _ h4
        subst h4
        rfl
      · exact absurd rfl (h4 l)
    · rw [run_cons]
      have e : stepA .bl c = .dg 1 := by
        show (if c = 48 then Au.zr else if isG c = true then .dg 1 else .dead) = _
        rw [if_neg c0, if_pos (h3 c List.mem_cons_self)]
      rw [e, run_dg l 1 (fun d hd => h3 d (List.mem_cons_of_mem _ hd)) (by omega)]
      rfl
def wL (ws : List (List Nat)) : List Nat := (ws.map (32 :: ·)).flatten
theorem wL_cons (w : List Nat) (ws : List (List Nat)) : wL (w :: ws) = 32 :: (w ++ wL ws) := rfl
theorem wL_app (a b : List (List Nat)) : wL (a ++ b) = wL a ++ wL b := by unfold wL; rw [List.map_append, List.flatten_append]
theorem run_nums : ∀ (ms : List (List Nat)) (q : Au), midA q = true → (∀ m ∈ ms, NumL m) → midA (runA q (wL ms)) = true
  | [], _, h, _ => h
  | m :: ms, q, h, hm => by
    rw [wL_cons, run_cons, mid_32 h, run_app]
    exact run_nums ms _ (run_num (hm m List.mem_cons_self)) fun x hx => hm x (List.mem_cons_of_mem _ hx)
def ahd (q : Au) : Prop := q = .s4 ∨ q = .pt
theorem ahd_32 {q : Au} (h : ahd q) : stepA q 32 = .w0 := by rcases h with rfl | rfl <;> rfl
structure WishL (p : List Nat) : Prop where
  ex : ∃ nm ms, NameL nm ∧ (∀ m ∈ ms, NumL m) ∧ p = wL (nm :: ms)
theorem run_wish {q : Au} (hq : ahd q) {p : List Nat} (h : WishL p) : midA (runA q p) = true := by
  obtain ⟨nm, ms, h1, h2, rfl⟩ := h.ex
  rw [wL_cons, run_cons, ahd_32 hq, run_app]
  exact run_nums ms _ (run_name h1) h2
def preL (ps : List (List Nat)) : List Nat := (ps.map (· ++ [59])).flatten
theorem run_pre : ∀ (ps : List (List Nat)) (q : Au), ahd q → (∀ p ∈ ps, WishL p) → ahd (runA q (preL ps))
  | [], _, h, _ => h
  | p :: ps, q, h, hp => by
    have e : preL (p :: ps) = p ++ 59 :: preL ps := by
      show (p ++ [59]) ++ preL ps = _
      rw [List.append_assoc]; rfl
    rw [e, run_app, run_cons, mid_59 (run_wish h (hp p List.mem_cons_self))]
    exact run_pre ps .pt (.inr rfl) fun x hx => hp x (List.mem_cons_of_mem _ hx)
theorem flat_mid : ∀ (as : List (List Nat)) (p : List Nat) (bs : List (List Nat)), flatL [59] (as ++ p :: bs) = preL as ++ flatL [59] (p :: bs)
  | [], _, _ => rfl
  | [a], p, bs => by
    show a ++ [59] ++ flatL [59] (p :: bs) = (a ++ [59]) ++ [] ++ flatL [59] (p :: bs)
    rw [List.append_nil]
  | a :: b :: as, p, bs => by
    show a ++ [59] ++ flatL [59] (b :: as ++ p :: bs) = (a ++ [59]) ++ preL (b :: as) ++ flatL [59] (p :: bs)
    rw [flat_mid (b :: as) p bs, List.append_assoc, List.append_assoc, List.append_assoc]
theorem flat_head (p : List Nat) (bs : List (List Nat)) : ∃ t, flatL [59] (p :: bs) = p ++ t ∧ (t = [] ∨ ∃ r, t = 59 :: r) := by
  cases bs with
  | nil => exact ⟨[], (List.append_nil p).symm, .inl rfl⟩
  | cons b bs => exact ⟨59 :: flatL [59] (b :: bs), by show p ++ [59] ++ flatL [59] (b :: bs) = _; rw [List.append_assoc]; rfl, .inr ⟨_, rfl⟩⟩
theorem run_parts {ps : List (List Nat)} {q : Au} (hq : ahd q) (hne : ps ≠ []) (h : ∀ p ∈ ps, WishL p) : midA (runA q (flatL [59] ps)) = true := by
  obtain ⟨as, l, rfl⟩ : ∃ as l, ps = as ++ [l] := ⟨ps.dropLast, ps.getLast hne, (List.dropLast_concat_getLast hne).symm⟩
  rw [flat_mid as l [], run_app]
  exact run_wish (run_pre as q hq fun p hp => h p (List.mem_append_left _ hp)) (h l (List.mem_append_right _ (List.mem_singleton.mpr rfl)))
theorem bad_part {as : List (List Nat)} {p : List Nat} {bs : List (List Nat)} {q : Au} (hq : ahd q) (ha : ∀ x ∈ as, WishL x) (hp : ∀ r, ahd r → runA r p = .dead ∨ runA r p = .bl) (suf : List Nat) (hs : suf = [] ∨ ∃ r, suf = 59 :: r) : accA (runA q (flatL [59] (as ++ p :: bs) ++ suf)) = false := by
  obtain ⟨t, et, ht⟩ := flat_head p bs
  rw [flat_mid, et, run_app, run_app, run_app]
  have end_ : ∀ r, (r = .dead ∨ r = .bl) → ∀ l, (l = [] ∨ ∃ z, l = 59 :: z) → (runA r l = .dead ∨ runA r l = .bl) := fun r hr l hl => by
    rcases hl with rfl | ⟨z, rfl⟩
    · exact hr
    · rcases hr with rfl | rfl
      · exact .inl (run_dead _)
      · rw [run_cons]; exact .inl (run_dead _)
  have h1 := end_ _ (end_ _ (hp _ (run_pre as q hq ha)) t ht) suf hs
  rcases h1 with h1 | h1 <;> rw [h1] <;> rfl
theorem run_head {x y : Nat} {l : List Nat} (hx : is13 x = true) (hy : is13 y = true) : runA .s0 (x :: 32 :: y :: 58 :: l) = runA .s4 l := by
  rw [run_cons]
  have e1 : stepA .s0 x = .s1 := if_pos hx
  rw [e1, run_cons, run_cons]
  have e2 : stepA (stepA .s1 32) y = .s3 := if_pos hy
  rw [e2]; rfl
theorem run_head3 {x y : Nat} {l : List Nat} (hx : is13 x = true) (hy : is13 y = true) : runA .s0 (x :: 32 :: y :: l) = runA .s3 l := by
  rw [run_cons]
  have e1 : stepA .s0 x = .s1 := if_pos hx
  rw [e1, run_cons, run_cons]
  have e2 : stepA (stepA .s1 32) y = .s3 := if_pos hy
  rw [e2]
end L2
set_option Elab.async false
set_option linter.all false
set_option maxRecDepth 100000
set_option maxHeartbeats 4000000
namespace L2
open PySem PySem.Spec PyProof.Rows
theorem rep_one {a b : List Nat} {c : Nat} (hc : c ∉ a) (zz : Str) : (rep1 ⟨(a ++ c :: b).toArray⟩ ⟨#[c]⟩ zz).cps.toList = a ++ zz.cps.toList ++ b := by
  have hl : (⟨(a ++ c :: b).toArray⟩ : Str).length = a.length + 1 + b.length := by show (a ++ c :: b).toArray.size = _; simp; omega
  have here : (a ++ c :: b)[a.length]? = some c := by simp
  unfold rep1
  have le := StrLaws.occ_length_le (⟨(a ++ c :: b).toArray⟩ : Str) ⟨#[c]⟩ 0 (⟨(a ++ c :: b).toArray⟩ : Str).length 1
  rcases StrLaws.occ_head (⟨(a ++ c :: b).toArray⟩ : Str) ⟨#[c]⟩ 1 (Nat.le_refl 1) with ⟨h0, hn⟩ | ⟨i, r, h0, hi, hn⟩
  · exact absurd (one_at.mpr (by simpa using here)) (hn a.length)
  · rw [h0] at le ⊢
    have er : r = [] := List.length_eq_zero_iff.mp (by rw [List.length_cons] at le; omega)
    subst er
    have hi' : (a ++ c :: b)[i]? = some c := by simpa using one_at.mp hi
    have e : i = a.length := by
      rcases Nat.lt_trichotomy i a.length with h | h | h
      · rw [List.getElem?_append_left h] at hi'
        exact absurd (List.mem_of_getElem? hi') hc
      · exact h
      · exact absurd (one_at.mpr (by simpa using here)) (hn _ h)
    subst e
    rw [if_neg (by show ¬ (false || ((1 : Nat) == 0 && _)) = true; simp)]
    rw [StrLaws.partsBetween_eq, StrLaws.glued_eq_join, StrLaws.partsFrom.eq_2, StrLaws.partsFrom.eq_1, Str.join.eq_3 _ _ _ (fun z => by cases z), app_list, app_list]
    show _ ++ _ ++ (Builtin.Str.strSub _ _ _).cps.toList = _
    rw [sub_list, sub_list, hl]
    have e1 : (⟨#[c]⟩ : Str).length = 1 := rfl
    rw [e1]
    simp
end L2
set_option Elab.async false
set_option linter.all false
set_option maxRecDepth 100000
set_option maxHeartbeats 4000000
namespace Law
open PySem L2
def top (i : Nat) : Stmt := PySem.Challenge.pw_rankgarth_k73_texts_of_wishes_refused.main.body.getD i (.Pass ⟨0, 0, 0, 0⟩)
abbrev s_is_whole : Stmt := top 9
abbrev s_is_place : Stmt := top 10
abbrev s_check_wish : Stmt := top 15
abbrev s_wish_of : Stmt := top 16
abbrev s_is_made_of : Stmt := top 24
abbrev s_is_name : Stmt := top 25
abbrev s_is_figures : Stmt := top 26
abbrev s_is_number : Stmt := top 27
abbrev s_check_form : Stmt := top 28
abbrev s_read_wish : Stmt := top 29
abbrev s_read_counts : Stmt := top 30
abbrev s_read_wishes : Stmt := top 31
abbrev s_law_cell_at : Stmt := top 33
abbrev s_law_wish : Stmt := top 34
abbrev s_law_text : Stmt := top 35
abbrev s_law_spoiled : Stmt := top 36
abbrev s_law_no_wish : Stmt := top 37
abbrev s_law_marks : Stmt := top 38
abbrev s_law : Stmt := top 39
abbrev s_Wish___init__ : Stmt := inClass (top 14) 0
structure Txt (mg : Str → Option Value) : Prop where
  b_ValueError : mg "ValueError" = none
  b_all : mg "all" = none
  b_bool : mg "bool" = none
  b_int : mg "int" = none
  b_isinstance : mg "isinstance" = none
  b_len : mg "len" = none
  b_range : mg "range" = none
  b_str : mg "str" = none
  b_tuple : mg "tuple" = none
  b_zip : mg "zip" = none
  g_FIGURES : ∃ t, mg "FIGURES" = some (.str "0123456789" t)
  g_LETTERS : ∃ t, mg "LETTERS" = some (.str "abcdefghijklmnopqrstuvwxyz" t)
  g_MOST_LETTERS : ∃ t, mg "MOST_LETTERS" = some (.int 8 t)
  g_MOST_NUMBER_FIGURES : ∃ t, mg "MOST_NUMBER_FIGURES" = some (.int 9 t)
  g_MOST_WISHES : ∃ t, mg "MOST_WISHES" = some (.int 6 t)
  g_MOST_WITHIN : ∃ t, mg "MOST_WITHIN" = some (.int 6 t)
abbrev xRs : List Str := ["NoText", "TooMany", "NoWish"]
abbrev xNs : List Str := ["NoText", "TooMany", "NoWish", "NoAsk", "NoName"]
theorem sc_is_whole : FnScope ["value"] ["value"] (defScope s_is_whole) := ⟨rfl, rfl, rfl, by decide +kernel, rfl, by decide +kernel, by decide +kernel⟩
theorem sc_is_place : FnScope ["value", "count"] ["value", "count"] (defScope s_is_place) := ⟨rfl, rfl, rfl, by decide +kernel, rfl, by decide +kernel, by decide +kernel⟩
theorem sc_check_wish : FnScope ["row", "asks", "deeds", "kinds", "bounds", "number", "kind"] ["row", "asks", "deeds"] (defScope s_check_wish) := ⟨rfl, rfl, rfl, by decide +kernel, rfl, by decide +kernel, by decide +kernel⟩
theorem sc_wish_of : FnScope ["row", "asks", "deeds"] ["row", "asks", "deeds"] (defScope s_wish_of) := ⟨rfl, rfl, rfl, by decide +kernel, rfl, by decide +kernel, by decide +kernel⟩
theorem sc_is_made_of : FnScope ["word", "signs", "most"] ["word", "signs", "most"] (defScope s_is_made_of) := ⟨rfl, rfl, rfl, by decide +kernel, rfl, by decide +kernel, by decide +kernel⟩
theorem sc_is_name : FnScope ["word"] ["word"] (defScope s_is_name) := ⟨rfl, rfl, rfl, by decide +kernel, rfl, by decide +kernel, by decide +kernel⟩
theorem sc_is_figures : FnScope ["word", "most"] ["word", "most"] (defScope s_is_figures) := ⟨rfl, rfl, rfl, by decide +kernel, rfl, by decide +kernel, by decide +kernel⟩
theorem sc_is_number : FnScope ["word"] ["word"] (defScope s_is_number) := ⟨rfl, rfl, rfl, by decide +kernel, rfl, by decide +kernel, by decide +kernel⟩
theorem sc_check_form : FnScope ["right"] ["right"] (defScope s_check_form) := ⟨rfl, rfl, rfl, by decide +kernel, rfl, by decide +kernel, by decide +kernel⟩
theorem sc_read_wish : FnScope ["text", "words"] ["text"] (defScope s_read_wish) := ⟨rfl, rfl, rfl, by decide +kernel, rfl, by decide +kernel, by decide +kernel⟩
theorem sc_read_counts : FnScope ["text", "words"] ["text"] (defScope s_read_counts) := ⟨rfl, rfl, rfl, by decide +kernel, rfl, by decide +kernel, by decide +kernel⟩
theorem sc_read_wishes : FnScope ["text", "parts", "counts", "wishes", "wish"] ["text"] (defScope s_read_wishes) := ⟨rfl, rfl, rfl, by decide +kernel, rfl, by decide +kernel, by decide +kernel⟩
theorem sc_law_cell_at : FnScope ["_law_script", "_law_k"] ["_law_script", "_law_k"] (defScope s_law_cell_at) := ⟨rfl, rfl, rfl, by decide +kernel, rfl, by decide +kernel, by decide +kernel⟩
theorem sc_law_wish : FnScope ["_law_cell", "_law_asks", "_law_deeds", "_law_words", "_law_word", "_law_ask", "_law_deed"] ["_law_cell", "_law_asks", "_law_deeds"] (defScope s_law_wish) := ⟨rfl, rfl, rfl, by decide +kernel, rfl, by decide +kernel, by decide +kernel⟩
theorem sc_law_text : FnScope ["_law_head", "_law_wishes"] ["_law_head", "_law_wishes"] (defScope s_law_text) := ⟨rfl, rfl, rfl, by decide +kernel, rfl, by decide +kernel, by decide +kernel⟩
theorem sc_law_spoiled : FnScope ["_law_head", "_law_wishes", "_law_kind", "_law_cell", "_law_wish_here", "_law_some", "_law_line"] ["_law_head", "_law_wishes", "_law_kind", "_law_cell"] (defScope s_law_spoiled) := ⟨rfl, rfl, rfl, by decide +kernel, rfl, by decide +kernel, by decide +kernel⟩
theorem sc_law_no_wish : FnScope ["_law_wish_here", "_law_asks", "_law_deeds", "_law_cell", "_law_way", "_law_bounds", "_law_most"] ["_law_wish_here", "_law_asks", "_law_deeds", "_law_cell"] (defScope s_law_no_wish) := ⟨rfl, rfl, rfl, by decide +kernel, rfl, by decide +kernel, by decide +kernel⟩
theorem sc_law_marks : FnScope ["_law_line", "_law_marks_here", "e"] ["_law_line"] (defScope s_law_marks) := ⟨rfl, rfl, rfl, by decide +kernel, rfl, by decide +kernel, by decide +kernel⟩
theorem sc_law : FnScope ["_law_script", "_law_cell", "_law_asks", "_law_deeds", "_law_head", "_law_wishes", "_law_k", "_law_good", "_law_kind", "_law_line", "_law_due", "_law_words"] ["_law_script"] (defScope s_law) := ⟨rfl, rfl, rfl, by decide +kernel, rfl, by decide +kernel, by decide +kernel⟩
theorem sc_Wish___init__ : FnScope ["self", "word", "numbers"] ["self", "word", "numbers"] (defScope s_Wish___init__) := ⟨rfl, rfl, rfl, by decide +kernel, rfl, by decide +kernel, by decide +kernel⟩
section
variable {P : Program} {w : World} {K : PySem.W.Frag} {mg : Str → Option Value} {base : Heap}
def spWhole : Sp := fun vs H Q _ => ∃ z : Int, vs = [.int z] ∧ Q (.bl true) H
theorem ok_is_whole (F : DefAt K mg "is_whole" s_is_whole ["value"]) (T : Txt mg) : Dn P w K mg base "is_whole" 1 ["value"] spWhole := by
  have sc := sc_is_whole
  refine F.ok sc (fun vs H Q E h => ?_) (fun f cdv A outer s H vs Q E hr h => ?_)
  · obtain ⟨z, rfl, _⟩ := h; rfl
  obtain ⟨z, rfl, q⟩ := h
  refine ⟨_, (pss_one (ps_ret (pe_and (pe_callB (clIsi (K := K) rfl (T := "int")) rfl T.b_isinstance PyProof.Rows.boot_isinstance (pa_cons (pv 0) (pa_cons (pe_bltn (v := .ty "int") rfl T.b_int PyProof.Rows.boot_int rfl) pa_nil))) (pe_one (pe_not (pe_callB (clIsi (K := K) rfl (T := "bool")) rfl T.b_isinstance PyProof.Rows.boot_isinstance (pa_cons (pv 0) (pa_cons (pe_bltn (v := .ty "bool") rfl T.b_bool PyProof.Rows.boot_bool rfl) pa_nil)))))))), ?_⟩
  refine ⟨_, rfl, _, "int", _, rfl, rfl, isi_same _, true, rfl, ?_⟩
  refine iteT ?_
  exact ⟨_, rfl, _, "int", _, rfl, rfl, isi_int_bool, false, rfl, q⟩
def spPlace : Sp := fun vs H Q _ => ∃ z n : Int, vs = [.int z, .int n] ∧ Q (.bl (decide (0 ≤ z ∧ z < n))) H
theorem ok_is_place (F : DefAt K mg "is_place" s_is_place ["value", "count"]) (T : Txt mg) (D_is_whole : Dn P w K mg base "is_whole" 1 ["value"] spWhole) : Dn P w K mg base "is_place" 2 ["value", "count"] spPlace := by
  have sc := sc_is_place
  refine F.ok sc (fun vs H Q E h => ?_) (fun f cdv A outer s H vs Q E hr h => ?_)
  · obtain ⟨_, _, rfl, _⟩ := h; rfl
  obtain ⟨z, n, rfl, q⟩ := h
  refine ⟨_, (pss_one (ps_ret (pe_and (pe_dn D_is_whole hr (pa_cons (pv 0) pa_nil)) (pe_one (pe_chain op_le op_lt pe_int (pv 0) (pv 1)))))), ?_⟩
  refine ⟨_, rfl, z, rfl, true, rfl, ?_⟩
  refine iteT ?_
  refine ⟨_, rfl, _, _, rfl, rfl, decide (0 ≤ z), rfl, ?_⟩
  refine ite2 (fun c => ?_) (fun c => ?_)
  · have h0 : 0 ≤ z := of_decide_eq_true c
    refine ⟨_, rfl, _, _, rfl, rfl, ?_⟩
    show Q (V.bl (decide (z < n))) H
    have e : decide (z < n) = decide (0 ≤ z ∧ z < n) := by
      by_cases h : z < n
      · rw [decide_eq_true h, decide_eq_true ⟨h0, h⟩]
      · rw [decide_eq_false h, decide_eq_false fun k => h k.2]
    rw [e]; exact q
  · have e : decide (0 ≤ z ∧ z < n) = false := decide_eq_false fun k => c (decide_eq_true k.1)
    rw [e] at q; exact q
variable {C : Addr}
def inT (signs : Str) (c : Nat) : Bool := !(Builtin.Str.occurrences signs ⟨#[c]⟩ 0 signs.length 1).isEmpty
def spMade : Sp := fun vs H Q _ => ∃ (z signs : Str) (m : Int), vs = [.str z, .str signs, .int m] ∧ z.length ≤ 100000 ∧ ∀ H', Same H H' → Q (.bl (decide (1 ≤ z.length ∧ (z.length : Int) ≤ m) && z.cps.toList.all (inT signs))) H'
theorem ok_made (F : DefAt K mg "is_made_of" s_is_made_of ["word", "signs", "most"]) (T : Txt mg) : Dn P w K mg base "is_made_of" 1 ["word", "signs", "most"] spMade := by
  have sc := sc_is_made_of
  refine F.ok sc (fun vs H Q E h => ?_) (fun f cdv A outer s H vs Q E hr h => ?_)
  · obtain ⟨_, _, _, rfl, _⟩ := h; rfl
  obtain ⟨z, signs, m, rfl, hz, q⟩ := h
  refine ⟨_, (pss_one (ps_ret (pe_and (pe_chain op_le op_le pe_int (pe_callB call_len_str rfl T.b_len PySem.boot_len (pa_cons (pv 0) pa_nil)) (pv 2)) (pe_one (pe_callB (call_allL rfl) rfl T.b_all PyProof.Rows.boot_all (pa_cons (pe_lc (defScope s_is_made_of) ["word", "signs", "most"] ["sign", "signs"] 1 [1] (pi_str (pv 0)) (fun _ _ _ _ _ _ => (ptg_name (show List.Nodup (["sign", "signs"] : List Str) by decide +kernel) rfl rfl)) (fun _ _ _ _ _ _ => pts_nil) (fun _ _ _ _ _ _ => (pe_cmpR op_in_str (pv 0) (pv 1) rfl))) pa_nil)))))), ?_⟩
  refine ⟨_, rfl, z, rfl, small (m := 100000) hz, _, _, rfl, rfl, ?_⟩
  have fin : decide (1 ≤ z.length ∧ (z.length : Int) ≤ m) = false → Q (.bl false) H := fun e => by
    have := q H (Same.refl _)
    rw [e] at this; exact this
  refine ⟨_, rfl, ?_⟩
  refine ite2 (fun c => ?_) (fun c => ?_)
  · have c1 : (1 : Int) ≤ z.length := of_decide_eq_true c
    refine ⟨_, rfl, _, _, rfl, rfl, _, rfl, ?_⟩
    refine ite2 (fun c => ?_) (fun c => ?_)
    · have c2 : (z.length : Int) ≤ m := of_decide_eq_true c
      refine ⟨_, rfl, z, rfl, comp_strD (z := z) (fun i ys H3 => H3 = H ∧ ys = ((z.cps.toList.take i).map (inT signs)).map V.bl) ⟨rfl, rfl⟩ (small (m := 100000) hz) (fun i ys H3 hi h => ?_) (fun i c ys H3 hi h => ?_) (fun ys H3 h p hp => ?_)⟩
      · obtain ⟨rfl, rfl⟩ := h
        simp; omega
      · obtain ⟨rfl, rfl⟩ := h
        refine comp_yes ?_
        refine ⟨_, rfl, _, rfl, _, _, rfl, rfl, rfl, ?_⟩
        have hi' : z.cps.toList[i]? = some c := by simpa using hi
        rw [List.take_add_one, hi', List.map_append, List.map_append]; rfl
      · obtain ⟨rfl, rfl⟩ := h
        refine ⟨p, _, rfl, SqL.of upd_same, ?_⟩
        have e := q _ (same_upd hp (.lst (((z.cps.toList.take z.cps.size).map (inT signs)).map V.bl)))
        rw [decide_eq_true ⟨by omega, c2⟩, Bool.true_and] at e
        have el : z.cps.toList.take z.cps.size = z.cps.toList := List.take_of_length_le (by simp)
        rw [el] at e ⊢
        rw [show ((z.cps.toList.map (inT signs)).all id) = z.cps.toList.all (inT signs) by rw [List.all_map]; rfl]
        exact e
    · exact fin (decide_eq_false fun h => c (decide_eq_true h.2))
  · refine ⟨_, rfl, ?_⟩
    refine iteF ?_
    exact fin (decide_eq_false fun h => c (decide_eq_true (by have := h.1; omega)))
def isName (z : Str) : Bool := decide (1 ≤ z.length ∧ (z.length : Int) ≤ 8) && z.cps.toList.all (inT "abcdefghijklmnopqrstuvwxyz")
def spName : Sp := fun vs H Q _ => ∃ z : Str, vs = [.str z] ∧ z.length ≤ 100000 ∧ ∀ H', Same H H' → Q (.bl (isName z)) H'
theorem ok_name (F : DefAt K mg "is_name" s_is_name ["word"]) (T : Txt mg) (D_is_made_of : Dn P w K mg base "is_made_of" 1 ["word", "signs", "most"] spMade) : Dn P w K mg base "is_name" 2 ["word"] spName := by
  have sc := sc_is_name
  refine F.ok sc (fun vs H Q E h => ?_) (fun f cdv A outer s H vs Q E hr h => ?_)
  · obtain ⟨_, rfl, _⟩ := h; rfl
  obtain ⟨z, rfl, hz, q⟩ := h
  refine ⟨_, (pss_one (ps_ret (pe_dn D_is_made_of hr (pa_cons (pv 0) (pa_cons (pe_gstr T.g_LETTERS) (pa_cons (pe_gint T.g_MOST_LETTERS) pa_nil)))))), ?_⟩
  exact ⟨_, rfl, z, _, _, rfl, hz, fun H' s' => q _ s'⟩
def isFig (z : Str) (m : Int) : Bool := (decide (1 ≤ z.length ∧ (z.length : Int) ≤ m) && z.cps.toList.all (inT "0123456789")) && (z == "0" || !(z.cps.toList[0]? == some 48))
def spFig : Sp := fun vs H Q _ => ∃ (z : Str) (m : Int), vs = [.str z, .int m] ∧ z.length ≤ 100000 ∧ ∀ H', Same H H' → Q (.bl (isFig z m)) H'
theorem ok_fig (F : DefAt K mg "is_figures" s_is_figures ["word", "most"]) (T : Txt mg) (D_is_made_of : Dn P w K mg base "is_made_of" 1 ["word", "signs", "most"] spMade) : Dn P w K mg base "is_figures" 2 ["word", "most"] spFig := by
  have sc := sc_is_figures
  refine F.ok sc (fun vs H Q E h => ?_) (fun f cdv A outer s H vs Q E hr h => ?_)
  · obtain ⟨_, _, rfl, _⟩ := h; rfl
  obtain ⟨z, m, rfl, hz, q⟩ := h
  refine ⟨_, (pss_one (ps_ret (pe_and (pe_dn D_is_made_of hr (pa_cons (pv 0) (pa_cons (pe_gstr T.g_FIGURES) (pa_cons (pv 1) pa_nil)))) (pe_one (pe_or (pe_cmpR op_eq (pv 0) pe_str (nomark _)) (pe_one (pe_cmpR op_ne (pe_ix ix_str (pv 0) pe_int (fun _ _ => rfl)) pe_str (nomark _)))))))), ?_⟩
  refine ⟨_, rfl, _, rfl, z, _, _, rfl, hz, fun H1 s1 => ?_⟩
  have fin : ∀ b c : Bool, isFig z m = (b && c) → Q (.bl (b && c)) H1 := fun b c e => by rw [← e]; exact q _ s1
  refine ⟨_, rfl, ?_⟩
  refine ite2 (fun c => ?_) (fun c => ?_)
  · have c1 := c
    rw [Bool.and_eq_true] at c1
    have l1 : 1 ≤ z.length := (of_decide_eq_true c1.1).1
    obtain ⟨c0, hc0⟩ : ∃ c0, z.cps.toList[0]? = some c0 := ⟨z.cps.toList[0]'(by rw [Array.length_toList]; exact l1), by simp⟩
    have ef : isFig z m = (z == "0" || !(some c0 == some 48)) := by unfold isFig; rw [c, hc0, Bool.true_and]
    refine ⟨_, rfl, rfl, ?_⟩
    refine ⟨_, rfl, ?_⟩
    refine ite2 (fun d => ?_) (fun d => ?_)
    · have e : z = "0" := by have := of_decide_eq_true d; injection this
      have := q _ s1
      rw [ef, e, show (("0" : Str) == ("0" : Str)) = true from rfl, Bool.true_or] at this; exact this
    · have e : (z == "0") = false := by
        rw [dec_str] at d
        exact Bool.eq_false_iff.mpr d
      refine ⟨_, rfl, z, 0, c0, rfl, rfl, small (m := 100000) hz, atI_nat (j := 0) hc0, rfl, ?_⟩
      have := q _ s1
      rw [ef, e, Bool.false_or] at this
      have e2 : decide (V.str ⟨#[c0]⟩ = V.str "0") = (some c0 == some 48) := by
        rw [dec_str]
        by_cases h : c0 = 48
        · subst h; rfl
        · have h1 : (some c0 == some 48) = false := by simp [h]
          rw [h1]
          refine Bool.eq_false_iff.mpr fun k => h ?_
          have := eq_of_beq k
          have e3 : (⟨#[c0]⟩ : Str).cps = (Str.ofString "0").cps := by rw [this]
          have e4 : (#[c0] : Array Nat) = #[48] := e3
          simpa using e4
      rw [e2]; exact this
  · have e : isFig z m = false := by unfold isFig; rw [Bool.eq_false_iff.mpr c, Bool.false_and]
    have := q _ s1
    rw [e] at this; exact this
def spNum : Sp := fun vs H Q _ => ∃ z : Str, vs = [.str z] ∧ z.length ≤ 100000 ∧ ∀ H', Same H H' → Q (.bl (isFig z 9)) H'
theorem ok_num (F : DefAt K mg "is_number" s_is_number ["word"]) (T : Txt mg) (D_is_figures : Dn P w K mg base "is_figures" 2 ["word", "most"] spFig) : Dn P w K mg base "is_number" 3 ["word"] spNum := by
  have sc := sc_is_number
  refine F.ok sc (fun vs H Q E h => ?_) (fun f cdv A outer s H vs Q E hr h => ?_)
  · obtain ⟨_, rfl, _⟩ := h; rfl
  obtain ⟨z, rfl, hz, q⟩ := h
  refine ⟨_, (pss_one (ps_ret (pe_dn D_is_figures hr (pa_cons (pv 0) (pa_cons (pe_gint T.g_MOST_NUMBER_FIGURES) pa_nil))))), ?_⟩
  exact ⟨_, rfl, z, _, rfl, hz, fun H' s' => q _ s'⟩
theorem inT_mem (x : Str) (c : Nat) : inT x c = decide (c ∈ x.cps.toList) := PySem.StrLaws.found_one x c
def intS (i : Int) : Str := toString i
theorem name_few {z : Str} (h : isName z = true) : 1 ≤ z.length ∧ z.length ≤ 8 ∧ ∀ c ∈ z.cps.toList, 97 ≤ c ∧ c ≤ 122 := by
  unfold isName at h
  rw [Bool.and_eq_true] at h
  have h1 := of_decide_eq_true h.1
  refine ⟨h1.1, by omega, fun c hc => ?_⟩
  have h2 := List.all_eq_true.mp h.2 c hc
  rw [inT_mem] at h2
  have h3 := of_decide_eq_true h2
  have h4 : ("abcdefghijklmnopqrstuvwxyz" : Str).cps.toList.all (fun c => decide (97 ≤ c ∧ c ≤ 122)) = true := by decide +kernel
  exact of_decide_eq_true (List.all_eq_true.mp h4 c h3)
theorem flat_mem {s : List Nat} : ∀ (ps : List (List Nat)) (c : Nat), c ∈ flatL s ps → c ∈ s ∨ ∃ p ∈ ps, c ∈ p
  | [], _, h => by cases h
  | [p], c, h => .inr ⟨p, List.mem_cons_self, h⟩
  | p :: q :: r, c, h => by
    have h' : c ∈ p ++ s ++ flatL s (q :: r) := h
    rcases List.mem_append.mp h' with h | h
    · rcases List.mem_append.mp h with h | h
      · exact .inr ⟨p, List.mem_cons_self, h⟩
      · exact .inl h
    · rcases flat_mem (q :: r) c h with h | ⟨x, hx, h⟩
      · exact .inl h
      · exact .inr ⟨x, List.mem_cons_of_mem _ hx, h⟩
theorem sum_le (B : Nat) : ∀ (l : List Str), (∀ x ∈ l, x.length ≤ B) → (l.map fun x => x.length).sum ≤ l.length * B
  | [], _ => by simp
  | x :: r, h => by
    have := sum_le B r fun y hy => h y (List.mem_cons_of_mem _ hy)
    have h0 := h x List.mem_cons_self
    rw [List.map_cons, List.sum_cons, List.length_cons, Nat.succ_mul]
    omega
theorem join_few {y : Str} {ps : List Str} {B : Nat} (h : ∀ x ∈ ps, x.length ≤ B) : (Txt.join y ps).length ≤ ps.length * (B + y.length) := by
  have h1 := StrLaws.join_length_le y ps
  have h2 := sum_le B ps h
  show (Builtin.Str.glued y ps).length ≤ _
  rw [StrLaws.glued_eq_join, Nat.mul_add]
  omega
theorem app_len (x y : Str) : (x ++ y).length = x.length + y.length := by rw [str_len, app_list, List.length_append, ← str_len, ← str_len]
def tabNK : List (Str × List Str) := [("answer", ["ask", "deed"]), ("often", ["deed"]), ("within", ["ask", "deed", "ticks"]), ("never", ["deed", "deed"]), ("not", ["ask", "deed"]), ("only", ["ask", "deed"]), ("hope", ["ask"]), ("calm", ["ask"])]
abbrev WR := Str × List Int
def wv (r : WR) : List V := .str r.1 :: r.2.map V.int
def bnd (a d : Int) (k : Str) : Int := if k = "ask" then a else if k = "deed" then d else 7
structure WOk (a d : Int) (r : WR) : Prop where
  k : ∃ ks, (r.1, ks) ∈ tabNK ∧ r.2.length = ks.length ∧ ∀ (i : Nat) (x : Int) (k : Str), r.2[i]? = some x → ks[i]? = some k → (k = "ask" ∨ k = "deed" ∨ k = "ticks") ∧ 0 ≤ x ∧ x < bnd a d k
def rW : Rel WR := fun H r v => ∃ t, v = .ref t ∧ H t = some (.tup (wv r))
theorem mono_w : MonoR rW := ⟨fun _ _ _ _ s h => by
  obtain ⟨t, e, h1⟩ := h
  exact ⟨t, e, s _ _ h1⟩⟩
theorem cut1 (x : V) (xs : List V) : cutV (x :: xs) (some 1) none = xs := by
  rw [cut_from1]; rfl
theorem tab_few : ∀ p ∈ tabNK, 1 ≤ p.2.length ∧ p.2.length ≤ 3 ∧ isName p.1 = true := by
  have h : tabNK.all (fun p => decide (1 ≤ p.2.length) && decide (p.2.length ≤ 3) && isName p.1) = true := by decide +kernel
  intro p hp
  have := List.all_eq_true.mp h p hp
  rw [Bool.and_eq_true, Bool.and_eq_true] at this
  exact ⟨of_decide_eq_true this.1.1, of_decide_eq_true this.1.2, this.2⟩
theorem sl_ok {x : V} {xs : List V} (h : xs ≠ []) : ¬ (HT.sIx (x :: xs).length 0 (some 1) = 0 ∧ HT.sIx (x :: xs).length (x :: xs).length none = (x :: xs).length) := by
  intro ⟨z, _⟩
  obtain ⟨y, r, rfl⟩ := List.exists_cons_of_ne_nil h
  simp [HT.sIx] at z
def KOk (a d x : Int) (k : Str) : Prop := (k = "ask" ∨ k = "deed" ∨ k = "ticks") ∧ 0 ≤ x ∧ x < bnd a d k
def InK (a d : Int) (xs : List Int) (ks : List Str) : Prop := xs.length = ks.length ∧ ∀ (i : Nat) (x : Int) (k : Str), xs[i]? = some x → ks[i]? = some k → KOk a d x k
theorem ink_nil (a d : Int) : InK a d [] [] := ⟨rfl, fun i x k h => by simp at h⟩
theorem ink_cons {a d x : Int} {k : Str} {xs : List Int} {ks : List Str} (h : KOk a d x k) (r : InK a d xs ks) : InK a d (x :: xs) (k :: ks) := by
  refine ⟨by rw [List.length_cons, List.length_cons, r.1], fun i y q hy hq => ?_⟩
  cases i with
  | zero => cases hy; cases hq; exact h
  | succ i => exact r.2 i y q hy hq
theorem k_ask {a d x : Int} (h0 : 0 ≤ x) (h1 : x < a) : KOk a d x "ask" := ⟨.inl rfl, h0, by unfold bnd; rw [if_pos rfl]; exact h1⟩
theorem k_deed {a d x : Int} (h0 : 0 ≤ x) (h1 : x < d) : KOk a d x "deed" := ⟨.inr (.inl rfl), h0, by unfold bnd; rw [if_neg (by decide +kernel), if_pos rfl]; exact h1⟩
theorem k_ticks {a d x : Int} (h0 : 0 ≤ x) (h1 : x < 7) : KOk a d x "ticks" := ⟨.inr (.inr rfl), h0, by unfold bnd; rw [if_neg (by decide +kernel), if_neg (by decide +kernel)]; exact h1⟩
theorem wok_of {a d : Int} {word : Str} {xs : List Int} {ks : List Str} (h : (word, ks) ∈ tabNK) (r : InK a d xs ks) : WOk a d (word, xs) := ⟨⟨ks, h, r.1, r.2⟩⟩
theorem wok_ne {a d : Int} {r : WR} (h : WOk a d r) : r.2 ≠ [] := fun z => by
  obtain ⟨ks, hks, hl, _⟩ := h.k
  have := (tab_few _ hks).1
  have l0 : r.2.length = 0 := by rw [z]; rfl
  have l1 : 1 ≤ ks.length := this
  omega
abbrev flW (s : Str) (sp : Addr) : List (Str × V) := putF "numbers" (.ref sp) (putF "word" (.str s) [])
abbrev WishFs : List Str := ["word", "numbers"]
def ObjW (C : Addr) (H : Hp) (x : Addr) (r : WR) : Prop := ∃ dx sp, H x = some (.ins C dx (flW r.1 sp)) ∧ H sp = some (.tup (r.2.map V.int))
def spInitW (C : Addr) : Sp := fun vs H Q _ => ∃ (x dx sp : Addr) (s : Str), vs = [.ref x, .str s, .ref sp] ∧ H x = some (.ins C dx []) ∧ Q .non (upd (upd H x (.ins C dx (putF "word" (.str s) []))) x (.ins C dx (flW s sp)))
theorem ok_initW (F : MkAt K C "Wish.__init__" s_Wish___init__ ["self", "word", "numbers"]) (T : Txt mg) (CL_Wish : ClsAt K mg "Wish" C WishFs) : DnK P w K mg base C 1 ["self", "word", "numbers"] (spInitW C) := by
  have sc := sc_Wish___init__
  refine F.ok sc (fun vs H Q E h => ?_) (fun f cdv A outer s H vs Q E hr h => ?_)
  · obtain ⟨_, _, _, _, rfl, _⟩ := h; rfl
  obtain ⟨x, dx, sp, wd, rfl, hx, q⟩ := h
  refine ⟨_, (pss_cons (ps_fldK (K := K) rfl (pv 0) (pv 1) rfl)
      (pss_one (ps_fldK (K := K) rfl (pv 0) (pv 2) rfl))), ?_⟩
  refine ⟨_, rfl, _, rfl, x, C, dx, [], rfl, hx, CL_Wish.cl, CL_Wish.na _ (by decide +kernel), (by show 0 < 1000; decide), ?_⟩
  exact ⟨_, rfl, _, rfl, x, C, dx, _, rfl, upd_same, CL_Wish.cl, CL_Wish.na _ (by decide +kernel), (by show 1 < 1000; decide), q⟩
theorem tab_one : ∀ p ∈ tabNK, ∀ q ∈ tabNK, p.1 = q.1 → p = q := by
  have h : tabNK.all (fun p => tabNK.all fun q => !decide (p.1 = q.1) || decide (p = q)) = true := by decide +kernel
  intro p hp q hq e
  have := List.all_eq_true.mp (List.all_eq_true.mp h p hp) q hq
  simpa [e] using this
theorem tab_kinds : ∀ p ∈ tabNK, ∀ k ∈ p.2, k = "ask" ∨ k = "deed" ∨ k = "ticks" := by
  have h : tabNK.all (fun p => p.2.all fun k => decide (k = "ask" ∨ k = "deed" ∨ k = "ticks")) = true := by decide +kernel
  intro p hp k hk
  exact of_decide_eq_true (List.all_eq_true.mp (List.all_eq_true.mp h p hp) k hk)
def spCWX (K : PySem.W.Frag) : Sp := fun vs H Q E => ∃ (t : Addr) (a d : Int) (r : WR), vs = [.ref t, .int a, .int d] ∧ H t = some (.tup (wv r)) ∧ r.2.length ≤ 60 ∧ (WOk a d r → ∀ H', Same H H' → Q .non H') ∧ (¬ WOk a d r → ∀ H', Same H H' → E (.ref (clK K "NoWish")) none H')
theorem ok_cwX (F : DefAt K mg "check_wish" s_check_wish ["row", "asks", "deeds"]) (T : Txt mg) (XC : XT K mg "GarthError" xRs xNs) (KT_NUMBER_KINDS : KTabAt w K mg "NUMBER_KINDS" tabNK) (D_is_place : Dn P w K mg base "is_place" 2 ["value", "count"] spPlace) : DnX P w K mg base "check_wish" 3 ["row", "asks", "deeds"] (spCWX K) := by
  have sc := sc_check_wish
  refine F.okX sc (fun vs H Q E h => ?_) (fun f cdv A outer s H vs Q E hr h => ?_)
  · obtain ⟨_, _, _, _, rfl, _⟩ := h; rfl
  obtain ⟨t, a, d, r, rfl, ht, h60, q1, q2⟩ := h
  have wl : (wv r).length = r.2.length + 1 := by unfold wv; simp
  refine ⟨_, (pss_cons (ps_if (PW.pt (pw_or (pt_not (pt_val (pe_callB (clIsi (K := K) rfl (T := "tuple")) rfl T.b_isinstance PyProof.Rows.boot_isinstance (pa_cons (pv 0) (pa_cons (pe_bltn (v := .ty "tuple") rfl T.b_tuple PyProof.Rows.boot_tuple rfl) pa_nil))))) (pw_or1 (pt_cmpR op_eq (pe_callB (clLen (K := K) rfl) rfl T.b_len PySem.boot_len (pa_cons (pv 0) pa_nil)) pe_int (nomark _)))))
      (pss_one (ps_raise raisesR (XC.m "NoWish" (by decide)) (XC.exc "NoWish" (by decide)) (pa_cons pe_str pa_nil)))
      pss_nil)
      (pss_cons (ps_if (PW.pt (pw_or (pt_not (pt_val (pe_callB (clIsi (K := K) rfl (T := "str")) rfl T.b_isinstance PyProof.Rows.boot_isinstance (pa_cons (pe_ix (ixT (K := K) rfl) (pv 0) pe_int (fun _ _ => rfl)) (pa_cons (pe_bltn (v := .ty "str") rfl T.b_str PyProof.Rows.boot_str rfl) pa_nil))))) (pw_or1 (pt_cmp (pc_dnotinK (pe_ix (ixT (K := K) rfl) (pv 0) pe_int (fun _ _ => rfl)) (pe_gtabF KT_NUMBER_KINDS))))))
      (pss_one (ps_raise raisesR (XC.m "NoWish" (by decide)) (XC.exc "NoWish" (by decide)) (pa_cons pe_str pa_nil)))
      pss_nil)
      (pss_cons (ps_set (i := 3) sc.nd rfl (Or.inl rfl) (pe_dgetK (pe_gtabF KT_NUMBER_KINDS) (pe_ix (ixT (K := K) rfl) (pv 0) pe_int (fun _ _ => rfl)) (fun _ _ => rfl)))
      (pss_cons (ps_if (pt_cmpR op_ne (pe_op op_sub (pe_callB (clLen (K := K) rfl) rfl T.b_len PySem.boot_len (pa_cons (pv 0) pa_nil)) pe_int) (pe_callB (clLen (K := K) rfl) rfl T.b_len PySem.boot_len (pa_cons (pv 3) pa_nil)) (nomark _))
      (pss_one (ps_raise raisesR (XC.m "NoWish" (by decide)) (XC.exc "NoWish" (by decide)) (pa_cons pe_str pa_nil)))
      pss_nil)
      (pss_cons (ps_set (i := 4) sc.nd rfl (Or.inl rfl) (pe_disp (pps_cons pe_str (pv 1) (pps_cons pe_str (pv 2) (pps_cons pe_str (pe_op op_add (pe_gint T.g_MOST_WITHIN) pe_int) pps_nil))) rfl rfl (fun z => by cases z) (by decide)))
      (pss_one (ps_for PassesOwn.leaving rfl (pi_zipT (K := K) rfl rfl T.b_zip (pa_cons (pe_slice (slT (K := K) rfl) (pv 0) (po_some pe_int) po_none) (pa_cons (pv 3) pa_nil))) (pg_tup rfl (pgs_cons (pg_name (i := 5) sc.nd rfl (Or.inl rfl)) (pgs_cons (pg_name (i := 6) sc.nd rfl (Or.inl rfl)) pgs_nil)))
      (pss_one (ps_if (pt_not (pt_val (pe_dn D_is_place hr (pa_cons (pv 5) (pa_cons (pe_dget (hu_n hr 1) (pv 4) (pv 6) (fun _ _ => rfl)) pa_nil)))))
      (pss_one (ps_raise raisesR (XC.m "NoWish" (by decide)) (XC.exc "NoWish" (by decide)) (pa_cons pe_str pa_nil)))
      pss_nil))))))))), ?_⟩
  refine ⟨_, rfl, _, "tuple", _, rfl, .inr (.inl ⟨rfl, _, ht⟩), isi_same _, _, rfl, ?_⟩
  refine iteF ?_
  refine ⟨_, rfl, t, _, rfl, .inr (SqT.of ht), rfl, _, rfl, ?_⟩
  refine ite2 (fun c => ?_) (fun _ => ?_)
  · have := of_decide_eq_true c
    injection this with this
    omega
  refine ⟨_, rfl, t, _, _, _, rfl, rfl, SqT.of ht, atI_nat (j := 0) rfl, _, "str", _, rfl, rfl, isi_same _, _, rfl, ?_⟩
  refine iteF ?_
  refine ⟨_, rfl, t, _, _, _, rfl, rfl, SqT.of ht, atI_nat (j := 0) rfl, fun dd kvs hK hv hn => ?_⟩
  refine ⟨dd, kvs, .inr r.1, rfl, hK, rfl, _, rfl, ?_⟩
  by_cases hm : r.1 ∈ tabNK.map (·.1)
  rotate_left
  · refine ite2 (fun _ => ?_) (fun c => ?_)
    · refine ⟨(by show 1 ≤ sizeLine; decide), q2 (fun z => ?_) _ (Same.refl _)⟩
      obtain ⟨ks, hks, _⟩ := z.k
      exact hm (List.mem_map.mpr ⟨_, hks, rfl⟩)
    · exfalso
      rw [if_pos rfl, hn _ hm] at c
      exact c rfl
  obtain ⟨⟨rw1, ks⟩, hks, e1⟩ := List.mem_map.mp hm
  replace e1 : rw1 = r.1 := e1
  subst e1
  obtain ⟨l1, l3, hnm⟩ : 1 ≤ ks.length ∧ ks.length ≤ 3 ∧ isName r.1 = true := tab_few _ hks
  have uni : WOk a d r → InK a d r.2 ks := fun z => by
    obtain ⟨ks', h', hl', hin'⟩ := z.k
    have e := tab_one _ h' _ hks rfl
    injection e with _ e
    subst e
    exact ⟨hl', hin'⟩
  obtain ⟨ka, hka, hkq⟩ : ∃ a, valV kvs (.inr r.1) = some (.ref a) ∧ ∀ H', SqT K H' a (ks.map V.str) := hv _ hks
  refine ite2 (fun c => ?_) (fun _ => ?_)
  · rw [if_pos rfl] at c
    rw [hka] at c
    cases c
  clear hka hkq ka hv hn hK
  refine fun dd kvs hK hv hn => ?_
  obtain ⟨ka, hka, hkq⟩ : ∃ a, valV kvs (.inr r.1) = some (.ref a) ∧ ∀ H', SqT K H' a (ks.map V.str) := hv _ hks
  refine ⟨_, rfl, t, _, _, _, rfl, rfl, SqT.of ht, atI_nat (j := 0) rfl, dd, kvs, .inr r.1, .ref ka, rfl, hK, rfl, hka, ?_⟩
  refine ⟨_, rfl, t, _, rfl, .inr (SqT.of ht), _, _, rfl, rfl, _, rfl, ka, _, rfl, .inr (hkq _), rfl, _, rfl, ?_⟩
  by_cases hl : r.2.length = ks.length
  rotate_left
  · refine ite2 (fun _ => ?_) (fun c => ?_)
    · exact ⟨(by show 1 ≤ sizeLine; decide), q2 (fun z => hl (uni z).1) _ (Same.refl _)⟩
    · exfalso
      refine c ?_
      show (!decide (V.int (((wv r).length : Int) - 1) = V.int ((ks.map V.str).length : Int))) = true
      have ne : ¬ V.int (((wv r).length : Int) - 1) = V.int ((ks.map V.str).length : Int) := fun z => by
        injection z with z
        rw [wl, List.length_map] at z
        omega
      rw [decide_eq_false ne]; rfl
  refine ite2 (fun c => ?_) (fun _ => ?_)
  · exfalso
    have e : ((wv r).length : Int) - 1 = ((ks.map V.str).length : Int) := by rw [wl, List.length_map]; omega
    have c' : (!decide (V.int (((wv r).length : Int) - 1) = V.int ((ks.map V.str).length : Int))) = true := c
    rw [e] at c'
    simp at c'
  refine fun bp hbp => ?_
  refine ⟨_, rfl, _, rfl, _, _, rfl, rfl, upd_same, [(.inr "ask", .int a), (.inr "deed", .int d), (.inr "ticks", .int (6 + 1))], rfl, (by show 3 ≤ 15; decide), ?_⟩
  have hbm : mergeK [] [((.inr "ask" : Key), V.int a), (.inr "deed", .int d), (.inr "ticks", .int (6 + 1))] = [((.inr "ask" : Key), V.int a), (.inr "deed", .int d), (.inr "ticks", .int (6 + 1))] := rfl
  have eu : upd (upd H bp (.dK [])) bp (.dK (mergeK [] [((.inr "ask" : Key), V.int a), (.inr "deed", .int d), (.inr "ticks", .int (6 + 1))])) = upd H bp (.dK [((.inr "ask" : Key), V.int a), (.inr "deed", .int d), (.inr "ticks", .int (6 + 1))]) := by
    rw [hbm]
    funext b
    by_cases e : b = bp
    · subst e; rw [upd_same, upd_same]
    · rw [upd_ne e, upd_ne e, upd_ne e]
  rw [eu]
  have sb := same_upd hbp (.dK [((.inr "ask" : Key), V.int a), (.inr "deed", .int d), (.inr "ticks", .int (6 + 1))])
  have hb1 : upd H bp (.dK [((.inr "ask" : Key), V.int a), (.inr "deed", .int d), (.inr "ticks", .int (6 + 1))]) bp = some (.dK [((.inr "ask" : Key), V.int a), (.inr "deed", .int d), (.inr "ticks", .int (6 + 1))]) := upd_same
  generalize upd H bp (.dK [((.inr "ask" : Key), V.int a), (.inr "deed", .int d), (.inr "ticks", .int (6 + 1))]) = H1 at sb hb1 ⊢
  have ht1 : H1 t = some (.tup (.str r.1 :: r.2.map V.int)) := sb _ _ ht
  have hne : r.2.map V.int ≠ [] := fun z => by
    have := congrArg List.length z
    rw [List.length_map] at this
    have : r.2.length = 0 := this
    omega
  refine ⟨_, rfl, 1, rfl, t, _, rfl, SqT.of ht1, sl_ok hne, fun sp hsp => ?_⟩
  rw [cut1]
  have s2 := sb.trans (same_upd hsp (.tup (r.2.map V.int)))
  have hs2 : upd H1 sp (.tup (r.2.map V.int)) sp = some (.tup (r.2.map V.int)) := upd_same
  have hb2 := same_upd hsp (.tup (r.2.map V.int)) _ _ hb1
  generalize upd H1 sp (.tup (r.2.map V.int)) = H2 at s2 hs2 hb2 ⊢
  refine ⟨_, rfl, sp, ka, rfl, ⟨_, SqT.of hs2⟩, ⟨_, hkq _⟩, for_zipT (K := K) (a := sp) (b := ka) (xs := r.2.map V.int) (ys := ks.map V.str) (by rw [List.length_map, List.length_map]; exact hl) (fun i σ H3 => Same H2 H3 ∧ (∃ y1 y2 : Option V, σ = [some (.ref t), some (.int a), some (.int d), some (.ref ka), some (.ref bp), y1, y2]) ∧ ∀ (j : Nat) (x : Int) (k : Str), j < i → r.2[j]? = some x → ks[j]? = some k → KOk a d x k)
    ⟨Same.refl _, ⟨_, _, rfl⟩, fun j _ _ z => absurd z (Nat.not_lt_zero j)⟩ (fun i σ H3 _ h => ⟨SqT.of (h.1 _ _ hs2), hkq _⟩) (fun i x y σ H3 Tt hi hj h hT => ?_) (fun σ H3 h => ?_)⟩
  · obtain ⟨s3, ⟨y1, y2, rfl⟩, hb⟩ := h
    obtain ⟨z, hz, rfl⟩ := int_of_at hi
    rw [List.getElem?_map] at hj
    obtain ⟨k, hk, rfl⟩ : ∃ k, ks[i]? = some k ∧ y = V.str k := by
      cases e : ks[i]? with
      | none => rw [e] at hj; cases hj
      | some k => rw [e] at hj; cases hj; exact ⟨k, rfl, rfl⟩
    have hkk := tab_kinds _ hks k (List.mem_of_getElem? hk)
    have s4 := s3.trans (same_upd hT (.tup [.int z, .str k]))
    have g : DGet (upd H3 Tt (.tup [.int z, .str k])) bp (.str k) (some (.int (bnd a d k))) := by
      refine .inl ⟨_, .inr k, .inl (s4 _ _ hb2), rfl, ?_⟩
      rcases hkk with rfl | rfl | rfl <;> rfl
    refine ⟨Tt, _, rfl, SqT.of upd_same, rfl, _, _, rfl, _, _, rfl, rfl, ?_⟩
    refine ⟨_, rfl, _, rfl, _, rfl, bp, _, rfl, g, z, bnd a d k, rfl, ?_⟩
    by_cases zk : 0 ≤ z ∧ z < bnd a d k
    · rw [decide_eq_true zk]
      refine ⟨_, rfl, ?_⟩
      refine iteF ?_
      refine ⟨s4, ⟨_, _, rfl⟩, fun j x k' hj hx hk' => ?_⟩
      by_cases e : j = i
      · subst e
        rw [hz] at hx; rw [hk] at hk'
        cases hx; cases hk'
        exact ⟨hkk, zk.1, zk.2⟩
      · exact hb j x k' (by omega) hx hk'
    · rw [decide_eq_false zk]
      refine ⟨_, rfl, ?_⟩
      refine iteT ?_
      exact ⟨(by show 1 ≤ sizeLine; decide), q2 (fun y => zk ((uni y).2 i z k hz hk).2) _ (s2.trans s4)⟩
  · obtain ⟨s3, _, hb⟩ := h
    refine q1 ⟨⟨ks, hks, hl, fun i x k hx hk => hb i x k ?_ hx hk⟩⟩ _ (s2.trans s3)
    rw [List.length_map]
    exact (List.getElem?_eq_some_iff.mp hx).1
def spWishX (C : Addr) (K : PySem.W.Frag) : Sp := fun vs H Q E => ∃ (t : Addr) (a d : Int) (r : WR), vs = [.ref t, .int a, .int d] ∧ H t = some (.tup (wv r)) ∧ r.2.length ≤ 60 ∧ (WOk a d r → ∀ (x : Addr) (H' : Hp), Same H H' → ObjW C H' x r → Q (.ref x) H') ∧ (¬ WOk a d r → ∀ H', Same H H' → E (.ref (clK K "NoWish")) none H')
theorem ok_wishX (F : DefAt K mg "wish_of" s_wish_of ["row", "asks", "deeds"]) (T : Txt mg) (CL_Wish : ClsAt K mg "Wish" C WishFs) (D_check_wish : DnX P w K mg base "check_wish" 3 ["row", "asks", "deeds"] (spCWX K)) (D_Wish___init__ : DnK P w K mg base C 1 ["self", "word", "numbers"] (spInitW C)) : DnX P w K mg base "wish_of" 4 ["row", "asks", "deeds"] (spWishX C K) := by
  have sc := sc_wish_of
  refine F.okX sc (fun vs H Q E h => ?_) (fun f cdv A outer s H vs Q E hr h => ?_)
  · obtain ⟨_, _, _, _, rfl, _⟩ := h; rfl
  obtain ⟨t, a, d, r, rfl, ht, h60, q, q2⟩ := h
  refine ⟨_, (pss_cons (ps_expr (pe_dnX passR D_check_wish hr (pa_cons (pv 0) (pa_cons (pv 1) (pa_cons (pv 2) pa_nil)))))
      (pss_one (ps_ret (pe_dnK CL_Wish D_Wish___init__ hr (pa_cons (pe_ix (ixT (K := K) rfl) (pv 0) pe_int (fun _ _ => rfl)) (pa_cons (pe_slice (slT (K := K) rfl) (pv 0) (po_some pe_int) po_none) pa_nil)))))), ?_⟩
  refine ⟨_, rfl, _, rfl, _, rfl, t, a, d, r, rfl, ht, h60, fun hok H1 s1 => ?_, q2⟩
  replace q := q hok
  have ht1 : H1 t = some (.tup (.str r.1 :: r.2.map V.int)) := s1 _ _ ht
  have hne : r.2.map V.int ≠ [] := fun z => wok_ne hok (List.map_eq_nil_iff.mp z)
  refine ⟨_, rfl, t, _, _, _, rfl, rfl, SqT.of ht1, atI_nat (j := 0) rfl, ?_⟩
  refine ⟨_, rfl, 1, rfl, t, _, rfl, SqT.of ht1, sl_ok hne, fun sp hsp => ?_⟩
  rw [cut1]
  have s2 := s1.trans (same_upd hsp (.tup (r.2.map V.int)))
  have hs2 : upd H1 sp (.tup (r.2.map V.int)) sp = some (.tup (r.2.map V.int)) := upd_same
  generalize upd H1 sp (.tup (r.2.map V.int)) = H2 at s2 hs2 ⊢
  refine fun x dx hx hdx ne => ?_
  refine ⟨x, dx, sp, r.1, rfl, upd_same, rfl, ?_⟩
  have nx : sp ≠ x := fun e => by rw [← e, hs2] at hx; cases hx
  have nd : sp ≠ dx := fun e => by rw [← e, hs2] at hdx; cases hdx
  have eu : ∀ b, b ≠ x → b ≠ dx → upd (upd (upd (upd H2 dx (.own x)) x (.ins C dx [])) x (.ins C dx (putF "word" (.str r.1) []))) x (.ins C dx (flW r.1 sp)) b = H2 b := fun b h1 h2 => by
    rw [upd_ne h1, upd_ne h1, upd_ne h1, upd_ne h2]
  refine q x _ (fun b o e => ?_) ⟨dx, sp, upd_same, ?_⟩
  · have e2 := s2 _ _ e
    rw [eu b (fun z => by rw [z, hx] at e2; cases e2) (fun z => by rw [z, hdx] at e2; cases e2)]
    exact e2
  · rw [eu sp nx nd]; exact hs2
theorem fig_in {c : Nat} : inT "0123456789" c = isG c := by
  rw [inT_mem]
  unfold isG
  rw [Bool.eq_iff_iff, decide_eq_true_eq, Bool.and_eq_true, decide_eq_true_eq, decide_eq_true_eq]
  have e : ("0123456789" : Str).cps.toList = [48, 49, 50, 51, 52, 53, 54, 55, 56, 57] := by decide +kernel
  rw [e]
  simp
  omega
theorem let_in {c : Nat} : inT "abcdefghijklmnopqrstuvwxyz" c = isL c := by
  rw [inT_mem]
  unfold isL
  rw [Bool.eq_iff_iff, decide_eq_true_eq, Bool.and_eq_true, decide_eq_true_eq, decide_eq_true_eq]
  have e : ("abcdefghijklmnopqrstuvwxyz" : Str).cps.toList = [97, 98, 99, 100, 101, 102, 103, 104, 105, 106, 107, 108, 109, 110, 111, 112, 113, 114, 115, 116, 117, 118, 119, 120, 121, 122] := by decide +kernel
  rw [e]
  simp
  omega
theorem name_l {z : Str} (h : isName z = true) : NameL z.cps.toList := by
  unfold isName at h
  rw [Bool.and_eq_true] at h
  have h1 := of_decide_eq_true h.1
  rw [str_len] at h1
  exact ⟨h1.1, by omega, fun c hc => by rw [← let_in]; exact List.all_eq_true.mp h.2 c hc⟩
theorem num_l {z : Str} (h : isFig z 9 = true) : NumL z.cps.toList := by
  unfold isFig at h
  rw [Bool.and_eq_true, Bool.and_eq_true, Bool.or_eq_true] at h
  obtain ⟨⟨h1, h2⟩, h3⟩ := h
  have h1 := of_decide_eq_true h1
  rw [str_len] at h1
  refine ⟨h1.1, by omega, fun c hc => by rw [← fig_in]; exact List.all_eq_true.mp h2 c hc, ?_⟩
  rcases h3 with h3 | h3
  · rw [eq_of_beq h3]; exact .inl (by decide +kernel)
  · refine .inr fun r e => ?_
    rw [e] at h3
    simp at h3
theorem fig_of {z : Str} (h : NumL z.cps.toList) : isFig z 9 = true := by
  unfold isFig
  rw [Bool.and_eq_true, Bool.and_eq_true, Bool.or_eq_true, str_len]
  refine ⟨⟨decide_eq_true ⟨h.one, by have := h.few; omega⟩, List.all_eq_true.mpr fun c hc => by rw [fig_in]; exact h.all c hc⟩, ?_⟩
  rcases h.lead with e | e
  · exact .inl (by rw [str_list e]; decide +kernel)
  · refine .inr ?_
    cases hz : z.cps.toList with
    | nil => have := h.one; rw [hz] at this; simp at this
    | cons c r =>
      have : c ≠ 48 := fun e2 => e r (by rw [hz, e2])
      simp [this]
theorem num_gen {z : Int} (h0 : 0 ≤ z) (h1 : z < 1000000) : isFig (intS z) 9 = true ∧ intText? (intS z) = some z ∧ (∀ c ∈ (intS z).cps.toList, 48 ≤ c ∧ c ≤ 57) ∧ (intS z).length ≤ 9 := by
  have ht : (intS z).cps.toList = dl z.natAbs := pos_text h0
  have hl : (dl z.natAbs).length ≤ 9 := dl_le (by decide) (by omega)
  have ha := dl_all z.natAbs
  refine ⟨fig_of ?_, (int_back z (Nat.lt_of_lt_of_le (show z.natAbs < 1000000 by omega) (by decide))).1, fun c hc => by rw [ht] at hc; exact ha c hc, by rw [str_len, ht]; exact hl⟩
  rw [ht]
  refine ⟨dl_len _, hl, fun c hc => ?_, ?_⟩
  · have := ha c hc
    unfold isG
    rw [decide_eq_true this.1, decide_eq_true this.2]; rfl
  · by_cases e : z.natAbs = 0
    · rw [e, dl_zero]; exact .inl rfl
    · exact .inr fun r er => e (dl_head er)
def numI (m : Str) : Int := (intText? m).getD 0
theorem numI_is {m : Str} (h : isFig m 9 = true) : intText? m = some (numI m) := by
  have n := num_l h
  have e := intText_digits (x := m) (fun c hc => by
    have := n.all c hc
    unfold isG at this
    rw [Bool.and_eq_true] at this
    exact ⟨of_decide_eq_true this.1, of_decide_eq_true this.2⟩) (fun e => by have := n.one; rw [e] at this; simp at this) (by have := n.few; rw [← str_len] at this; omega)
  unfold numI
  rw [e]; rfl
theorem numI_s {z : Int} (h0 : 0 ≤ z) (h1 : z < 1000000) : numI (intS z) = z := by unfold numI; rw [(num_gen h0 h1).2.1]; rfl
theorem cut2 (x y : V) (xs : List V) : cutV (x :: y :: xs) (some 2) none = xs := by
  unfold cutV
  show List.take _ (List.drop (HT.sIx (x :: y :: xs).length 0 (some ((2 : Nat) : Int))) (x :: y :: xs)) = _
  rw [HT.sIx_nat, HT.sIx_none]
  show List.take ((x :: y :: xs).length - HT.sIx (x :: y :: xs).length 0 (some ((2 : Nat) : Int))) (List.drop (min 2 (x :: y :: xs).length) (x :: y :: xs)) = _
  rw [HT.sIx_nat]
  have : min 2 (x :: y :: xs).length = 2 := by simp
  rw [this]
  show List.take ((x :: y :: xs).length - 2) xs = xs
  rw [List.take_of_length_le (by simp)]
def itS (r : WR) : List Str := r.1 :: r.2.map intS
def wT (r : WR) : Str := (" " : Str) ++ Txt.join " " (itS r)
structure WTx (r : WR) : Prop where
  nm : isName r.1 = true
  ns : ∀ x ∈ r.2, 0 ≤ x ∧ x < 1000000
  l : r.2.length ≤ 4
theorem wok_tx {a d : Int} {r : WR} (h : WOk a d r) (ha : a ≤ 3) (hd : d ≤ 3) : WTx r := by
  obtain ⟨ks, hks, hl, hin⟩ := h.k
  obtain ⟨l1, l3, hnm⟩ : 1 ≤ ks.length ∧ ks.length ≤ 3 ∧ isName r.1 = true := tab_few _ hks
  refine ⟨hnm, fun x hx => ?_, by omega⟩
  obtain ⟨i, hi⟩ := List.getElem?_of_mem hx
  have hil : i < ks.length := by have := (List.getElem?_eq_some_iff.mp hi).1; omega
  obtain ⟨_, z0, z1⟩ := hin i x ks[i] hi (by simp)
  refine ⟨z0, Int.lt_of_lt_of_le z1 ?_⟩
  unfold bnd
  split
  · omega
  · split <;> omega
theorem its_few {r : WR} (h : WTx r) : ∀ x ∈ itS r, x.length ≤ 9 ∧ ∀ c ∈ x.cps.toList, c ≠ 32 ∧ c ≠ 59 ∧ c ≠ 58 := by
  intro x hx
  rcases List.mem_cons.mp hx with e | e
  · rw [e]
    obtain ⟨n1, n2, n3⟩ := name_few h.nm
    exact ⟨by omega, fun c hc => by have := n3 c hc; omega⟩
  · obtain ⟨y, hy, rfl⟩ := List.mem_map.mp e
    obtain ⟨f1, f2, f3, f4⟩ := num_gen (h.ns y hy).1 (h.ns y hy).2
    exact ⟨f4, fun c hc => by have := f3 c hc; omega⟩
theorem wT_list (r : WR) : (wT r).cps.toList = 32 :: flatL [32] ((itS r).map fun p => p.cps.toList) := by
  unfold wT
  rw [app_list, flat_join]; rfl
theorem wT_join (r : WR) : wT r = Txt.join " " ("" :: itS r) := by
  refine (str_list (wT_list r)).trans (Eq.symm (str_list ?_))
  rw [flat_join]; rfl
theorem wT_split {r : WR} (h : WTx r) : Txt.split (wT r) " " = ("" : Str) :: itS r := by
  rw [wT_join]
  refine split_join (c := 32) (s := []) rfl (by decide +kernel) (fun z => by cases z) fun p hp z => ?_
  rcases List.mem_cons.mp hp with e | e
  · rw [e] at z; cases z
  · exact ((its_few h p e).2 32 z).1 rfl
theorem wT_few {r : WR} (h : WTx r) : (wT r).length ≤ 60 ∧ 1 ≤ (wT r).length ∧ 59 ∉ (wT r).cps.toList := by
  have hl : (itS r).length ≤ 5 := by unfold itS; have := h.l; rw [List.length_cons, List.length_map]; omega
  have h1 := join_few (y := " ") (ps := itS r) (B := 9) fun x hx => (its_few h x hx).1
  have e1 : (" " : Str).length = 1 := by decide +kernel
  refine ⟨?_, ?_, fun z => ?_⟩
  · unfold wT
    rw [app_len, e1]
    rw [e1] at h1
    omega
  · rw [str_len, wT_list]; simp
  · rw [wT_list] at z
    rcases List.mem_cons.mp z with z | z
    · cases z
    · rcases flat_mem _ _ z with z | ⟨p, hp, z⟩
      · simp at z
      · obtain ⟨x, hx, rfl⟩ := List.mem_map.mp hp
        exact ((its_few h x hx).2 59 z).2.1 rfl
def bodyT (ws : List WR) : Str := Txt.join ";" (ws.map wT)
def headC (a d : Int) : Str := intS a ++ " " ++ intS d
def lineT (a d : Int) (ws : List WR) : Str := headC a d ++ ":" ++ bodyT ws
theorem body_few {ws : List WR} (h : ∀ r ∈ ws, WTx r) (hl : ws.length ≤ 16) : (bodyT ws).length ≤ 1000 := by
  have h1 := join_few (y := ";") (ps := ws.map wT) (B := 60) fun x hx => by
    obtain ⟨r, hr, rfl⟩ := List.mem_map.mp hx
    exact (wT_few (h r hr)).1
  have e1 : (";" : Str).length = 1 := by decide +kernel
  rw [List.length_map, e1] at h1
  unfold bodyT
  omega
theorem body_split {ws : List WR} (h : ∀ r ∈ ws, WTx r) : (ws = [] → (bodyT ws).length = 0) ∧ (ws ≠ [] → (bodyT ws).length ≠ 0 ∧ Txt.split (bodyT ws) ";" = ws.map wT) := by
  refine ⟨fun e => by rw [e]; decide +kernel, fun hne => ⟨?_, ?_⟩⟩
  · unfold bodyT
    rw [str_len, flat_join]
    obtain ⟨p, l, he⟩ := List.exists_cons_of_ne_nil hne
    have h2 := (wT_few (h p (by rw [he]; exact List.mem_cons_self))).2.1
    rw [str_len] at h2
    rw [he, List.map_cons, List.map_cons]
    generalize (l.map wT).map (fun p => p.cps.toList) = l'
    cases l' with
    | nil => show (wT p).cps.toList.length ≠ 0; omega
    | cons q l =>
      show (_ ++ _ ++ flatL _ (q :: l)).length ≠ 0
      rw [List.length_append, List.length_append]
      omega
  · refine split_join (c := 59) (s := []) rfl (by decide +kernel) (fun z => hne (List.map_eq_nil_iff.mp z)) fun p hp z => ?_
    obtain ⟨r, hr, rfl⟩ := List.mem_map.mp hp
    exact (wT_few (h r hr)).2.2 z
def CntOk (z : Int) : Prop := 1 ≤ z ∧ z ≤ 3
theorem cnt_few {z : Int} (h : CntOk z) : (intS z).length ≤ 9 ∧ (∀ c ∈ (intS z).cps.toList, c ≠ 32 ∧ c ≠ 58) ∧ intText? (intS z) = some z ∧ intS z ∈ [("1" : Str), "2", "3"] := by
  obtain ⟨f1, f2, f3, f4⟩ := num_gen (z := z) (by have := h.1; omega) (by have := h.2; omega)
  refine ⟨f4, fun c hc => by have := f3 c hc; omega, f2, ?_⟩
  have : z = 1 ∨ z = 2 ∨ z = 3 := by have := h.1; have := h.2; omega
  rcases this with rfl | rfl | rfl
  · exact (by decide +kernel : intS 1 ∈ [("1" : Str), "2", "3"])
  · exact (by decide +kernel : intS 2 ∈ [("1" : Str), "2", "3"])
  · exact (by decide +kernel : intS 3 ∈ [("1" : Str), "2", "3"])
theorem headC_split {a d : Int} (ha : CntOk a) (hd : CntOk d) : Txt.split (headC a d) " " = [intS a, intS d] := by
  have e : headC a d = Txt.join " " [intS a, intS d] := rfl
  rw [e]
  refine split_join (c := 32) (s := []) rfl (by decide +kernel) (fun z => by cases z) fun p hp z => ?_
  rcases List.mem_cons.mp hp with e | e
  · rw [e] at z; exact ((cnt_few ha).2.1 32 z).1 rfl
  · rw [List.mem_singleton.mp e] at z; exact ((cnt_few hd).2.1 32 z).1 rfl
theorem headC_few {a d : Int} (ha : CntOk a) (hd : CntOk d) : (headC a d).length ≤ 19 ∧ 58 ∉ (headC a d).cps.toList := by
  unfold headC
  refine ⟨?_, fun z => ?_⟩
  · rw [app_len, app_len]
    have e1 : (" " : Str).length = 1 := by decide +kernel
    have := (cnt_few ha).1
    have := (cnt_few hd).1
    omega
  · rw [app_list, app_list] at z
    rcases List.mem_append.mp z with z | z
    · rcases List.mem_append.mp z with z | z
      · exact ((cnt_few ha).2.1 58 z).2 rfl
      · revert z; decide +kernel
    · exact ((cnt_few hd).2.1 58 z).2 rfl
theorem line_part {a d : Int} (ha : CntOk a) (hd : CntOk d) (ws : List WR) : Txt.partition (lineT a d ws) ":" = (headC a d, (":" : Str), bodyT ws) := by
  have e : (lineT a d ws).cps.toList = (headC a d).cps.toList ++ 58 :: (bodyT ws).cps.toList := by
    unfold lineT
    rw [app_list, app_list, List.append_assoc]; rfl
  rw [str_list e]
  exact part_one (b := (bodyT ws).cps.toList) (headC_few ha hd).2
theorem line_few {a d : Int} (ha : CntOk a) (hd : CntOk d) {ws : List WR} (h : ∀ r ∈ ws, WTx r) (hl : ws.length ≤ 16) : (lineT a d ws).length ≤ 1100 := by
  have h1 := body_few h hl
  have h2 := (headC_few ha hd).1
  have e1 : (":" : Str).length = 1 := by decide +kernel
  unfold lineT
  rw [app_len, app_len]
  omega
theorem split_cps (t y : Str) : t.cps.toList = flatL y.cps.toList ((Txt.split t y).map fun p => p.cps.toList) := by
  rw [← flat_join]
  show _ = (Builtin.Str.glued y (Txt.split t y)).cps.toList
  rw [StrLaws.glued_eq_join, StrLaws.join_split]
theorem flat_ge {s : List Nat} : ∀ (ps : List (List Nat)), (∀ p ∈ ps, p.length ≤ (flatL s ps).length) ∧ (1 ≤ s.length → ps.length ≤ (flatL s ps).length + 1)
  | [] => ⟨(fun p h => by cases h), fun _ => Nat.zero_le _⟩
  | [p] => ⟨(fun q h => by rw [List.mem_singleton.mp h]; exact Nat.le_refl _), fun _ => by simp⟩
  | p :: q :: r => by
    obtain ⟨h1, h2⟩ := flat_ge (s := s) (q :: r)
    have e : (flatL s (p :: q :: r)).length = p.length + s.length + (flatL s (q :: r)).length := by
      show (p ++ s ++ flatL s (q :: r)).length = _
      rw [List.length_append, List.length_append]
    refine ⟨fun x hx => ?_, fun hs => ?_⟩
    · rw [e]
      rcases List.mem_cons.mp hx with rfl | hx
      · omega
      · have := h1 x hx; omega
    · have := h2 hs
      rw [e, List.length_cons]
      omega
theorem split_few (t y : Str) (hy : 1 ≤ y.cps.toList.length) : (∀ p ∈ Txt.split t y, p.length ≤ t.length) ∧ (Txt.split t y).length ≤ t.length + 1 := by
  have h := flat_ge (s := y.cps.toList) ((Txt.split t y).map fun p => p.cps.toList)
  rw [← split_cps, ← str_len] at h
  refine ⟨fun p hp => ?_, by have := h.2 hy; rwa [List.length_map] at this⟩
  have := h.1 _ (List.mem_map.mpr ⟨p, hp, rfl⟩)
  rwa [← str_len] at this
def spFormX (K : PySem.W.Frag) : Sp := fun vs H Q E => ∃ b : Bool, vs = [.bl b] ∧ (b = true → Q .non H) ∧ (b = false → E (.ref (clK K "NoText")) none H)
theorem ok_formX (F : DefAt K mg "check_form" s_check_form ["right"]) (T : Txt mg) (XC : XT K mg "GarthError" xRs xNs) : DnX P w K mg base "check_form" 1 ["right"] (spFormX K) := by
  have sc := sc_check_form
  refine F.okX sc (fun vs H Q E h => ?_) (fun f cdv A outer s H vs Q E hr h => ?_)
  · obtain ⟨_, rfl, _⟩ := h; rfl
  obtain ⟨b, rfl, q1, q2⟩ := h
  refine ⟨_, (pss_one (ps_if (pt_not (pt_val (pv 0)))
      (pss_one (ps_raise raisesR (XC.m "NoText" (by decide)) (XC.exc "NoText" (by decide)) (pa_cons pe_str pa_nil)))
      pss_nil)), ?_⟩
  refine ⟨_, rfl, _, rfl, ?_⟩
  cases b with
  | true => exact iteF (q1 rfl)
  | false => exact iteT ⟨(by show 1 ≤ sizeLine; decide), q2 rfl⟩
structure RwT (t : Str) : Prop where
  ex : ∃ nm ms, Txt.split t " " = ("" : Str) :: nm :: ms ∧ isName nm = true ∧ ∀ m ∈ ms, isFig m 9 = true
def spRWX (K : PySem.W.Frag) : Sp := fun vs H Q E => ∃ t : Str, vs = [.str t] ∧ t.length ≤ 10000 ∧
  (∀ nm ms, Txt.split t " " = ("" : Str) :: nm :: ms → isName nm = true → (∀ m ∈ ms, isFig m 9 = true) → ∀ (p : Addr) (H' : Hp), Same H H' → H p = none → H' p = some (.tup (wv (nm, ms.map numI))) → Q (.ref p) H') ∧ (¬ RwT t → ∀ H', Same H H' → E (.ref (clK K "NoText")) none H')
theorem ok_rwX (F : DefAt K mg "read_wish" s_read_wish ["text"]) (T : Txt mg) (D_check_form : DnX P w K mg base "check_form" 1 ["right"] (spFormX K)) (D_is_name : Dn P w K mg base "is_name" 2 ["word"] spName) (D_is_number : Dn P w K mg base "is_number" 3 ["word"] spNum) : DnX P w K mg base "read_wish" 4 ["text"] (spRWX K) := by
  have sc := sc_read_wish
  refine F.okX sc (fun vs H Q E h => ?_) (fun f cdv A outer s H vs Q E hr h => ?_)
  · obtain ⟨_, rfl, _⟩ := h; rfl
  obtain ⟨t, rfl, ht, q1, q2⟩ := h
  obtain ⟨fw, fl⟩ := split_few t " " (by decide +kernel)
  refine ⟨_, (pss_cons (ps_set (i := 1) sc.nd rfl (Or.inl rfl) (pe_bm PySem.F.plainAttrs_str PySem.F.slot_str_split PySem.F.type_str_split mt_split (pv 0) (pa_cons pe_str pa_nil)))
      (pss_cons (ps_expr (pe_dnX passR D_check_form hr (pa_cons (pe_and (pe_cmpR op_gt (pe_callB (clLen (K := K) rfl) rfl T.b_len PySem.boot_len (pa_cons (pv 1) pa_nil)) pe_int (nomark _)) (pe_and (pe_cmpR op_eq (pe_ix (ixL (K := K) rfl) (pv 1) pe_int (fun _ _ => rfl)) pe_str (nomark _)) (pe_one (pe_dn D_is_name hr (pa_cons (pe_ix (ixL (K := K) rfl) (pv 1) pe_int (fun _ _ => rfl)) pa_nil))))) pa_nil)))
      (pss_cons (ps_expr (pe_dnX passR D_check_form hr (pa_cons (pe_callB (call_allL rfl) rfl T.b_all PyProof.Rows.boot_all (pa_cons (pe_lc (defScope s_read_wish) ["text", "words"] ["word"] 1 [] (pi_list (pe_slice (slL (K := K) rfl) (pv 1) (po_some pe_int) po_none)) (fun _ _ _ _ _ _ => (ptg_name (show List.Nodup (["word"] : List Str) by decide +kernel) rfl rfl)) (fun _ _ _ _ _ _ => pts_nil) (fun _ _ _ _ _ _ => (pe_dn D_is_number hr (pa_cons (pv 0) pa_nil)))) pa_nil)) pa_nil)))
      (pss_one (ps_ret (pe_callTy call_tuple_of rfl T.b_tuple PyProof.Rows.boot_tuple (pa_cons (pe_op op_cat (pe_lst (pa_cons (pe_ix (ixL (K := K) rfl) (pv 1) pe_int (fun _ _ => rfl)) pa_nil)) (pe_lc (defScope s_read_wish) ["text", "words"] ["word"] 1 [] (pi_list (pe_slice (slL (K := K) rfl) (pv 1) (po_some pe_int) po_none)) (fun _ _ _ _ _ _ => (ptg_name (show List.Nodup (["word"] : List Str) by decide +kernel) rfl rfl)) (fun _ _ _ _ _ _ => pts_nil) (fun _ _ _ _ _ _ => (pe_callTy call_int_text rfl T.b_int PyProof.Rows.boot_int (pa_cons (pv 0) pa_nil))))) pa_nil))))))), ?_⟩
  refine ⟨_, rfl, rfl, t, _, rfl, rfl, rfl, small (m := 100000) (by omega), fun wp hwp => ?_⟩
  have s1 := same_upd hwp (.lst ((Txt.split t " ").map V.str))
  have hw1 : upd H wp (.lst ((Txt.split t " ").map V.str)) wp = some (.lst ((Txt.split t " ").map V.str)) := upd_same
  generalize upd H wp (.lst ((Txt.split t " ").map V.str)) = H1 at s1 hw1 ⊢
  generalize hsp : Txt.split t " " = ws at fw fl hw1 q1
  have no : (∀ nm ms, ws = ("" : Str) :: nm :: ms → isName nm = true → (∀ m ∈ ms, isFig m 9 = true) → False) → ¬ RwT t := fun z y => by
    obtain ⟨nm, ms, e1, e2, e3⟩ := y.ex
    exact z nm ms (hsp.symm.trans e1) e2 e3
  refine ⟨_, rfl, wp, _, rfl, .inl (SqL.of hw1), _, _, rfl, rfl, _, rfl, ?_⟩
  rw [List.length_map]
  refine ite2 (fun c => ?_) (fun c => ?_)
  rotate_left
  · have c' : ¬ (1 : Int) < ((ws.length : Nat) : Int) := fun z => c (decide_eq_true z)
    refine ⟨false, rfl, (fun z => by cases z), fun _ => q2 (no fun nm ms e _ _ => c' ?_) _ s1⟩
    rw [e, List.length_cons, List.length_cons]; omega
  have c' : (1 : Int) < ((ws.length : Nat) : Int) := of_decide_eq_true c
  obtain ⟨w0, nm, ms, rfl⟩ : ∃ w0 nm ms, ws = w0 :: nm :: ms := by
    match ws, c' with
    | [], c' => simp at c'
    | [_], c' => simp at c'
    | a :: b :: c, _ => exact ⟨a, b, c, rfl⟩
  refine ⟨_, rfl, wp, _, _, _, rfl, rfl, SqL.of hw1, atI_nat (j := 0) rfl, rfl, ?_⟩
  refine ⟨_, rfl, ?_⟩
  refine ite2 (fun c => ?_) (fun c => ?_)
  rotate_left
  · refine ⟨false, rfl, (fun z => by cases z), fun _ => q2 (no fun nm' ms' e _ _ => c ?_) _ s1⟩
    injection e with e _
    rw [e]; exact decide_eq_true rfl
  have c0 := of_decide_eq_true c
  injection c0 with c0
  subst c0
  refine ⟨_, rfl, wp, _, _, _, rfl, rfl, SqL.of hw1, atI_nat (j := 1) rfl, nm, rfl, by have := fw nm (by simp); omega, fun H2 s2 => ⟨isName nm, rfl, fun hn => ?_, fun hn => q2 (no fun nm' ms' e en _ => ?_) _ (s1.trans s2)⟩⟩
  rotate_left
  · injection e with _ e
    injection e with e _
    rw [e, en] at hn; cases hn
  have hw2 := s2 _ _ hw1
  replace s2 := s1.trans s2
  have cs : cutV ((("" : Str) :: nm :: ms).map V.str) (some 2) none = ms.map V.str := cut2 _ _ _
  refine ⟨_, rfl, 2, rfl, wp, _, rfl, SqL.of hw2, fun sp hs2 => ?_⟩
  rw [cs]
  have s4 := same_upd hs2 (.lst (ms.map V.str))
  have hs4 : upd H2 sp (.lst (ms.map V.str)) sp = some (.lst (ms.map V.str)) := upd_same
  generalize upd H2 sp (.lst (ms.map V.str)) = H4 at s4 hs4 ⊢
  have ml : ms.length ≤ 10000 := by
    have : (("" : Str) :: nm :: ms).length = ms.length + 2 := rfl
    omega
  refine ⟨sp, rfl, ⟨_, SqL.of hs4⟩, comp_listD (K := K) (a := sp) (xs := ms.map V.str) (fun i ys H5 => Same H4 H5 ∧ ys = ((ms.take i).map fun m => isFig m 9).map V.bl) ⟨Same.refl _, rfl⟩ (small (m := 100000) (by rw [List.length_map]; omega)) (fun i ys H5 hi h => ?_) (fun i x ys H5 hi h => ?_) (fun ys H5 h bp hbp => ?_)⟩
  · obtain ⟨s5, rfl⟩ := h
    exact ⟨SqL.of (s5 _ _ hs4), by simp; omega⟩
  · obtain ⟨s5, rfl⟩ := h
    rw [List.getElem?_map] at hi
    obtain ⟨m, hm, rfl⟩ : ∃ m, ms[i]? = some m ∧ x = V.str m := by
      cases e : ms[i]? with
      | none => rw [e] at hi; cases hi
      | some z => rw [e] at hi; cases hi; exact ⟨z, rfl, rfl⟩
    refine comp_yes ?_
    refine ⟨_, rfl, m, rfl, by have := fw m (by simp [List.mem_of_getElem? hm]); omega, fun H6 s6 => ⟨s5.trans s6, ?_⟩⟩
    rw [List.take_add_one, hm, List.map_append, List.map_append]; rfl
  obtain ⟨s5, rfl⟩ := h
  rw [List.length_map, List.take_length]
  refine ⟨bp, _, rfl, SqL.of upd_same, ?_⟩
  have s6 := s5.trans (same_upd hbp (.lst ((ms.map fun m => isFig m 9).map V.bl)))
  generalize upd H5 bp (.lst ((ms.map fun m => isFig m 9).map V.bl)) = H6 at s6 ⊢
  refine ⟨_, rfl, fun hall => ?_, fun hall => q2 (no fun nm' ms' e _ em => ?_) _ (s2.trans (s4.trans s6))⟩
  rotate_left
  · injection e with _ e
    injection e with _ e
    rw [List.all_map] at hall
    have : (ms.all (id ∘ fun m => isFig m 9)) = true := List.all_eq_true.mpr fun m hm => em m (e ▸ hm)
    rw [this] at hall; cases hall
  have em : ∀ m ∈ ms, isFig m 9 = true := fun m hm => by
    rw [List.all_map] at hall
    exact List.all_eq_true.mp hall m hm
  have hw6 := (s4.trans s6) _ _ hw2
  refine ⟨_, rfl, wp, _, _, _, rfl, rfl, SqL.of hw6, atI_nat (j := 1) rfl, (by show 1 ≤ sizeLine; decide), fun lp hlp => ?_⟩
  have sl := same_upd hlp (.lst [V.str nm])
  have hl7 : upd H6 lp (.lst [V.str nm]) lp = some (.lst [V.str nm]) := upd_same
  have hw7 := sl _ _ hw6
  generalize upd H6 lp (.lst [V.str nm]) = H7 at sl hl7 hw7 ⊢
  refine ⟨_, rfl, 2, rfl, wp, _, rfl, SqL.of hw7, fun sp2 hs8 => ?_⟩
  rw [cs]
  have s8 := same_upd hs8 (.lst (ms.map V.str))
  have hs9 : upd H7 sp2 (.lst (ms.map V.str)) sp2 = some (.lst (ms.map V.str)) := upd_same
  have hl8 := s8 _ _ hl7
  generalize upd H7 sp2 (.lst (ms.map V.str)) = H8 at s8 hs9 hl8 ⊢
  refine ⟨sp2, rfl, ⟨_, SqL.of hs9⟩, comp_listD (K := K) (a := sp2) (xs := ms.map V.str) (fun i ys H9 => H9 = H8 ∧ ys = ((ms.take i).map numI).map V.int) ⟨rfl, rfl⟩ (small (m := 100000) (by rw [List.length_map]; omega)) (fun i ys H9 hi h => ?_) (fun i x ys H9 hi h => ?_) (fun ys H9 h np hnp => ?_)⟩
  · obtain ⟨rfl, rfl⟩ := h
    exact ⟨SqL.of hs9, by simp; omega⟩
  · obtain ⟨rfl, rfl⟩ := h
    rw [List.getElem?_map] at hi
    obtain ⟨m, hm, rfl⟩ : ∃ m, ms[i]? = some m ∧ x = V.str m := by
      cases e : ms[i]? with
      | none => rw [e] at hi; cases hi
      | some z => rw [e] at hi; cases hi; exact ⟨z, rfl, rfl⟩
    have hf := em m (List.mem_of_getElem? hm)
    refine comp_yes ?_
    refine ⟨_, rfl, m, numI m, rfl, numI_is hf, by have := (num_l hf).few; rw [← str_len] at this; omega, rfl, ?_⟩
    rw [List.take_add_one, hm, List.map_append, List.map_append]; rfl
  obtain ⟨rfl, rfl⟩ := h
  rw [List.length_map, List.take_length]
  refine ⟨lp, np, _, _, rfl, rfl, same_upd hnp _ _ _ hl8, upd_same, small (m := 100000) (by rw [List.length_map, List.length_map, List.length_singleton]; omega), fun cp hcp => ?_⟩
  have sz := (same_upd hnp (.lst ((ms.map numI).map V.int))).trans (same_upd hcp (.lst ([V.str nm] ++ (ms.map numI).map V.int)))
  refine ⟨cp, _, rfl, .inl ⟨SqL.of upd_same, fun tp htp => ?_⟩⟩
  have st := s2.trans (s4.trans (s6.trans (sl.trans (s8.trans sz))))
  exact q1 nm ms rfl hn em tp _ (st.trans (same_upd htp _)) (st.free htp) upd_same
theorem inV_str (x : Str) (l : List Str) : inV (.str x) (l.map V.str) = decide (x ∈ l) := by
  unfold inV
  rw [Bool.eq_iff_iff, List.any_eq_true, decide_eq_true_eq]
  constructor
  · rintro ⟨v, hv, e⟩
    obtain ⟨y, hy, rfl⟩ := List.mem_map.mp hv
    have : y = x := by simpa [eqV] using e
    exact this ▸ hy
  · intro h
    exact ⟨.str x, List.mem_map.mpr ⟨x, h, rfl⟩, by simp [eqV]⟩
abbrev cs3 : List Str := ["1", "2", "3"]
theorem cs_num {x : Str} (h : x ∈ cs3) : isFig x 9 = true ∧ CntOk (numI x) := by
  simp only [List.mem_cons, List.not_mem_nil, or_false] at h
  rcases h with rfl | rfl | rfl
  · exact ⟨by decide +kernel, by unfold CntOk; decide +kernel⟩
  · exact ⟨by decide +kernel, by unfold CntOk; decide +kernel⟩
  · exact ⟨by decide +kernel, by unfold CntOk; decide +kernel⟩
def spRCX (K : PySem.W.Frag) : Sp := fun vs H Q E => ∃ t : Str, vs = [.str t] ∧ t.length ≤ 10000 ∧
  (∀ x y, Txt.split t " " = [x, y] → x ∈ cs3 → y ∈ cs3 → ∀ (p : Addr) (H' : Hp), Same H H' → H p = none → H' p = some (.tup [.int (numI x), .int (numI y)]) → Q (.ref p) H') ∧ ((∀ x y, Txt.split t " " = [x, y] → x ∈ cs3 → y ∈ cs3 → False) → ∀ H', Same H H' → E (.ref (clK K "NoText")) none H')
theorem ok_rcX (F : DefAt K mg "read_counts" s_read_counts ["text"]) (T : Txt mg) (KT_COUNTS : KTupAt K mg "COUNTS" ["1", "2", "3"]) (D_check_form : DnX P w K mg base "check_form" 1 ["right"] (spFormX K)) : DnX P w K mg base "read_counts" 2 ["text"] (spRCX K) := by
  have sc := sc_read_counts
  refine F.okX sc (fun vs H Q E h => ?_) (fun f cdv A outer s H vs Q E hr h => ?_)
  · obtain ⟨_, rfl, _⟩ := h; rfl
  obtain ⟨t, rfl, ht, q1, q2⟩ := h
  refine ⟨_, (pss_cons (ps_set (i := 1) sc.nd rfl (Or.inl rfl) (pe_bm PySem.F.plainAttrs_str PySem.F.slot_str_split PySem.F.type_str_split mt_split (pv 0) (pa_cons pe_str pa_nil)))
      (pss_cons (ps_expr (pe_dnX passR D_check_form hr (pa_cons (pe_and (pe_cmpR op_eq (pe_callB (clLen (K := K) rfl) rfl T.b_len PySem.boot_len (pa_cons (pv 1) pa_nil)) pe_int (nomark _)) (pe_and (pe_cmpR (inS (K := K) rfl) (pe_ix (ixL (K := K) rfl) (pv 1) pe_int (fun _ _ => rfl)) (pe_gtup KT_COUNTS) rfl) (pe_one (pe_cmpR (inS (K := K) rfl) (pe_ix (ixL (K := K) rfl) (pv 1) pe_int (fun _ _ => rfl)) (pe_gtup KT_COUNTS) rfl)))) pa_nil)))
      (pss_one (ps_ret (pe_tup (pa_cons (pe_callTy call_int_text rfl T.b_int PyProof.Rows.boot_int (pa_cons (pe_ix (ixL (K := K) rfl) (pv 1) pe_int (fun _ _ => rfl)) pa_nil)) (pa_cons (pe_callTy call_int_text rfl T.b_int PyProof.Rows.boot_int (pa_cons (pe_ix (ixL (K := K) rfl) (pv 1) pe_int (fun _ _ => rfl)) pa_nil)) pa_nil))))))), ?_⟩
  refine ⟨_, rfl, rfl, t, _, rfl, rfl, rfl, small (m := 100000) (by omega), fun wp hwp => ?_⟩
  have s1 := same_upd hwp (.lst ((Txt.split t " ").map V.str))
  have hw1 : upd H wp (.lst ((Txt.split t " ").map V.str)) wp = some (.lst ((Txt.split t " ").map V.str)) := upd_same
  generalize upd H wp (.lst ((Txt.split t " ").map V.str)) = H1 at s1 hw1 ⊢
  generalize Txt.split t " " = ws at hw1 q1 q2
  refine ⟨_, rfl, wp, _, rfl, .inl (SqL.of hw1), rfl, _, rfl, ?_⟩
  rw [List.length_map]
  refine ite2 (fun c => ?_) (fun c => ?_)
  rotate_left
  · refine ⟨false, rfl, (fun z => by cases z), fun _ => q2 (fun x y e _ _ => c ?_) _ s1⟩
    rw [e]; rfl
  obtain ⟨x, y, rfl⟩ : ∃ x y, ws = [x, y] := by
    have c' := of_decide_eq_true c
    injection c' with c'
    match ws, c' with
    | [], c' => simp at c'
    | [_], c' => simp at c'
    | [a, b], _ => exact ⟨a, b, rfl⟩
    | _ :: _ :: _ :: _, c' => simp at c'; omega
  refine ⟨_, rfl, wp, _, _, _, rfl, rfl, SqL.of hw1, atI_nat (j := 0) rfl, fun ca hca => ⟨ca, _, rfl, .inr (hca _), rfl, rfl, ?_⟩⟩
  rw [inV_str]
  refine ⟨_, rfl, ?_⟩
  refine ite2 (fun c => ?_) (fun c => ?_)
  rotate_left
  · refine ⟨false, rfl, (fun z => by cases z), fun _ => q2 (fun x' y' e hx _ => c ?_) _ s1⟩
    injection e with e _
    rw [e]; exact decide_eq_true hx
  have hx : x ∈ cs3 := of_decide_eq_true c
  refine ⟨_, rfl, wp, _, _, _, rfl, rfl, SqL.of hw1, atI_nat (j := 1) rfl, fun ca hca => ⟨ca, _, rfl, .inr (hca _), rfl, rfl, ?_⟩⟩
  rw [inV_str]
  refine ⟨_, rfl, fun c => ?_, fun c => q2 (fun x' y' e _ hy => ?_) _ s1⟩
  rotate_left
  · injection e with _ e
    injection e with e _
    have c' : decide (y ∈ cs3) = false := c
    rw [e, decide_eq_true hy] at c'; cases c'
  have hy : y ∈ cs3 := of_decide_eq_true c
  obtain ⟨fx, cx⟩ := cs_num hx
  obtain ⟨fy, cy⟩ := cs_num hy
  have lx := (num_l fx).few
  have ly := (num_l fy).few
  rw [← str_len] at lx ly
  refine ⟨_, rfl, wp, _, _, _, rfl, rfl, SqL.of hw1, atI_nat (j := 0) rfl, x, numI x, rfl, numI_is fx, by omega, _, rfl, wp, _, _, _, rfl, rfl, SqL.of hw1, atI_nat (j := 1) rfl, y, numI y, rfl, numI_is fy, by omega, (by show 2 ≤ sizeLine; decide), fun tp htp => ?_⟩
  exact q1 x y rfl hx hy tp _ (s1.trans (same_upd htp _)) (s1.free htp) upd_same
def PR (t : Str) (r : WR) : Prop := ∃ nm ms, Txt.split t " " = ("" : Str) :: nm :: ms ∧ isName nm = true ∧ (∀ m ∈ ms, isFig m 9 = true) ∧ r = (nm, ms.map numI)
def Parsed (b : Str) (ws : List WR) : Prop := (b.length = 0 ∧ ws = []) ∨ (b.length ≠ 0 ∧ Paired PR (Txt.split b ";") ws)
def Form (s : Str) (a d : Int) (ws : List WR) : Prop := ∃ hd b x y, Txt.partition s ":" = (hd, (":" : Str), b) ∧ Txt.split hd " " = [x, y] ∧ x ∈ cs3 ∧ y ∈ cs3 ∧ a = numI x ∧ d = numI y ∧ Parsed b ws
theorem pr_len {α β : Type} {F : α → β → Prop} : ∀ {xs : List α} {ys : List β}, Paired F xs ys → xs.length = ys.length
  | _, _, .nil => rfl
  | _, _, .cons _ t => by rw [List.length_cons, List.length_cons, pr_len t]
def spRWsX (K : PySem.W.Frag) : Sp := fun vs H Q E => ∃ v : V, vs = [v] ∧
  ((∃ S, kindV H v S ∧ PySem.W.kitOne K (.type S) (.type "str") = some false ∧ ∀ H', Same H H' → E (.ref (clK K "NoText")) none H') ∨
   ∃ s : Str, v = .str s ∧ s.length ≤ 5000 ∧ ((∀ a d ws, ¬ Form s a d ws) → ∀ H', Same H H' → E (.ref (clK K "NoText")) none H') ∧
    ∀ a d ws, Form s a d ws → (∀ r ∈ ws, r.2.length ≤ 60) ∧ (6 < ws.length → ∀ H', Same H H' → E (.ref (clK K "TooMany")) none H') ∧ (ws.length ≤ 6 → (∃ r ∈ ws, ¬ WOk a d r) → ∀ H', Same H H' → E (.ref (clK K "NoWish")) none H') ∧
      (ws.length ≤ 6 → (∀ r ∈ ws, WOk a d r) → ∀ (p : Addr) (xs : List V) (H' : Hp), Same H H' → H' p = some (.tup xs) → Q (.ref p) H'))
theorem ok_rwsX (F : DefAt K mg "read_wishes" s_read_wishes ["text"]) (T : Txt mg) (XC : XT K mg "GarthError" xRs xNs) (D_check_form : DnX P w K mg base "check_form" 1 ["right"] (spFormX K)) (D_read_counts : DnX P w K mg base "read_counts" 2 ["text"] (spRCX K)) (D_read_wish : DnX P w K mg base "read_wish" 4 ["text"] (spRWX K)) (D_wish_of : DnX P w K mg base "wish_of" 4 ["row", "asks", "deeds"] (spWishX C K)) : DnX P w K mg base "read_wishes" 5 ["text"] (spRWsX K) := by
  have sc := sc_read_wishes
  refine F.okX sc (fun vs H Q E h => ?_) (fun f cdv A outer s H vs Q E hr h => ?_)
  · obtain ⟨_, rfl, _⟩ := h; rfl
  obtain ⟨v, rfl, h⟩ := h
  refine ⟨_, (pss_cons (ps_expr (pe_dnX passR D_check_form hr (pa_cons (pe_callB (clIsi (K := K) rfl (T := "str")) rfl T.b_isinstance PyProof.Rows.boot_isinstance (pa_cons (pv 0) (pa_cons (pe_bltn (v := .ty "str") rfl T.b_str PyProof.Rows.boot_str rfl) pa_nil))) pa_nil)))
      (pss_cons (ps_set (i := 1) sc.nd rfl (Or.inl rfl) (pe_bm PySem.F.plainAttrs_str PySem.F.slot_str_partition PySem.F.type_str_partition mt_partition (pv 0) (pa_cons pe_str pa_nil)))
      (pss_cons (ps_expr (pe_dnX passR D_check_form hr (pa_cons (pe_cmpR op_eq (pe_ix (ixT (K := K) rfl) (pv 1) pe_int (fun _ _ => rfl)) pe_str (nomark _)) pa_nil)))
      (pss_cons (ps_set (i := 2) sc.nd rfl (Or.inl rfl) (pe_dnX passR D_read_counts hr (pa_cons (pe_ix (ixT (K := K) rfl) (pv 1) pe_int (fun _ _ => rfl)) pa_nil)))
      (pss_cons (ps_set (i := 3) sc.nd rfl (Or.inl rfl) (pe_ifExp (pt_truth (pe_ix (ixT (K := K) rfl) (pv 1) pe_int (fun _ _ => rfl)) (by intro _; rfl)) (pe_lcX (defScope s_read_wishes) ["text", "parts", "counts", "wishes", "wish"] ["part"] 1 [] (pi_list (pe_bm PySem.F.plainAttrs_str PySem.F.slot_str_split PySem.F.type_str_split mt_split (pe_ix (ixT (K := K) rfl) (pv 1) pe_int (fun _ _ => rfl)) (pa_cons pe_str pa_nil))) (fun _ _ _ _ _ _ _ => (ptg_name (show List.Nodup (["part"] : List Str) by decide +kernel) rfl rfl)) (fun _ _ _ _ _ _ _ => pts_nil) (fun _ _ _ _ _ _ _ hp => (pe_dnX hp D_read_wish hr (pa_cons (pv 0) pa_nil)))) (pe_lst pa_nil)))
      (pss_cons (ps_if (pt_cmpR op_gt (pe_callB (clLen (K := K) rfl) rfl T.b_len PySem.boot_len (pa_cons (pv 3) pa_nil)) (pe_gint T.g_MOST_WISHES) (nomark _))
      (pss_one (ps_raise raisesR (XC.m "TooMany" (by decide)) (XC.exc "TooMany" (by decide)) (pa_cons (pe_join (pj_str (pj_int T.g_MOST_WISHES (pj_str pj_nil)))) pa_nil)))
      pss_nil)
      (pss_cons (ps_for PassesOwn.leaving rfl (pi_list (pv 3)) (pg_name (i := 4) sc.nd rfl (Or.inl rfl))
      (pss_one (ps_expr (pe_dnX passR D_wish_of hr (pa_cons (pv 4) (pa_cons (pe_ix (ixT (K := K) rfl) (pv 2) pe_int (fun _ _ => rfl)) (pa_cons (pe_ix (ixT (K := K) rfl) (pv 2) pe_int (fun _ _ => rfl)) pa_nil)))))))
      (pss_one (ps_ret (pe_tup (pa_cons (pe_ix (ixT (K := K) rfl) (pv 2) pe_int (fun _ _ => rfl)) (pa_cons (pe_ix (ixT (K := K) rfl) (pv 2) pe_int (fun _ _ => rfl)) (pa_cons (pv 3) pa_nil))))))))))))), ?_⟩
  rcases h with ⟨S, hk, kt, q⟩ | ⟨s0, rfl, hs0, q0, q⟩
  · exact ⟨_, rfl, _, S, _, rfl, hk, kt, false, rfl, (fun z => by cases z), fun _ => q _ (Same.refl _)⟩
  refine ⟨_, rfl, _, "str", _, rfl, rfl, isi_same _, true, rfl, fun _ => ?_, (fun z => by cases z)⟩
  refine ⟨_, rfl, rfl, s0, _, rfl, rfl, rfl, small (m := 10000) (by omega), fun tp htp => ?_⟩
  have psum := StrLaws.partition_sum s0 ":"
  obtain ⟨hd, sep, b, hp⟩ : ∃ hd sep b, Txt.partition s0 ":" = (hd, sep, b) := ⟨_, _, _, rfl⟩
  rw [hp] at psum
  have plen : hd.length + sep.length + b.length = s0.length := by rw [← psum, app_len, app_len]
  rw [hp]
  have uniq : ∀ {a d ws}, Form s0 a d ws → ∃ x y, sep = ":" ∧ Txt.split hd " " = [x, y] ∧ x ∈ cs3 ∧ y ∈ cs3 ∧ a = numI x ∧ d = numI y ∧ Parsed b ws := fun ⟨hd', b', x, y, e, r⟩ => by
    rw [hp] at e
    injection e with e1 e
    injection e with e2 e3
    subst e1; subst e3
    exact ⟨x, y, e2, r⟩
  have s1 := same_upd htp (.tup [V.str hd, .str sep, .str b])
  have ht1 : upd H tp (.tup [V.str hd, .str sep, .str b]) tp = some (.tup [V.str hd, .str sep, .str b]) := upd_same
  generalize upd H tp (.tup [V.str hd, .str sep, .str b]) = H1 at s1 ht1 ⊢
  refine ⟨_, rfl, tp, _, _, _, rfl, rfl, SqT.of ht1, atI_nat (j := 1) rfl, rfl, _, rfl, fun c => ?_, fun c => q0 (fun a d ws f => ?_) _ s1⟩
  rotate_left
  · obtain ⟨_, _, e, _⟩ := uniq f
    rw [e] at c
    exact absurd c (by decide)
  have e0 := of_decide_eq_true c
  injection e0 with e0
  subst e0
  refine ⟨_, rfl, tp, _, _, _, rfl, rfl, SqT.of ht1, atI_nat (j := 0) rfl, hd, rfl, by omega, fun x y ex hx hy cp H2 s2 _ hc2 => ?_, fun no H2 s2 => q0 (fun a d ws f => ?_) _ (s1.trans s2)⟩
  rotate_left
  · obtain ⟨x, y, _, e, h1, h2, _⟩ := uniq f
    exact no x y e h1 h2
  have mk : ∀ {ws}, Parsed b ws → Form s0 (numI x) (numI y) ws := fun z => ⟨hd, b, x, y, hp, ex, hx, hy, rfl, rfl, z⟩
  have ht2 := s2 _ _ ht1
  have s02 := s1.trans s2
  clear s1 s2
  refine ⟨_, rfl, tp, _, _, _, rfl, rfl, SqT.of ht2, atI_nat (j := 2) rfl, decide (b.length ≠ 0), ?_, ?_⟩
  · refine ⟨small (m := 10000) (by omega), ?_⟩
    by_cases e : b.length = 0
    · rw [e]; rfl
    · rw [decide_eq_true e]
      symm
      simp [e]
  refine ite2 (fun c => ?_) (fun c => ?_)
  · have e : b.length ≠ 0 := of_decide_eq_true c
    obtain ⟨fw, fl⟩ := split_few b ";" (by decide +kernel)
    refine ⟨_, rfl, tp, _, _, _, rfl, rfl, SqT.of ht2, atI_nat (j := 2) rfl, rfl, b, _, rfl, rfl, rfl, small (m := 10000) (by omega), fun sp hsp => ?_⟩
    have s3 := same_upd hsp (.lst ((Txt.split b ";").map V.str))
    have hs3 : upd H2 sp (.lst ((Txt.split b ";").map V.str)) sp = some (.lst ((Txt.split b ";").map V.str)) := upd_same
    generalize upd H2 sp (.lst ((Txt.split b ";").map V.str)) = H3' at s3 hs3 ⊢
    refine ⟨sp, rfl, ⟨_, SqL.of hs3⟩, comp_listD (K := K) (a := sp) (xs := (Txt.split b ";").map V.str) (fun i ys H5 => Same H3' H5 ∧ ∃ ws, Paired PR ((Txt.split b ";").take i) ws ∧ Paired (rW H5) ws ys) ⟨Same.refl _, [], .nil, .nil⟩ (small (m := 100000) (by rw [List.length_map]; omega)) (fun i ys H5 hi h => ?_) (fun i u ys H5 hi h => ?_) (fun ys H5 h l hl5 => ?_)⟩
    · obtain ⟨s5, ws, p1, p2⟩ := h
      refine ⟨SqL.of (s5 _ _ hs3), ?_⟩
      rw [← pr_len p2, ← pr_len p1]; exact List.length_take_le _ _
    · obtain ⟨s5, ws, p1, p2⟩ := h
      rw [List.getElem?_map] at hi
      obtain ⟨t, ht, rfl⟩ : ∃ t, (Txt.split b ";")[i]? = some t ∧ u = V.str t := by
        cases e : (Txt.split b ";")[i]? with
        | none => rw [e] at hi; cases hi
        | some z => rw [e] at hi; cases hi; exact ⟨z, rfl, rfl⟩
      refine comp_yes ?_
      refine ⟨_, rfl, t, rfl, by have := fw t (List.mem_of_getElem? ht); omega, fun nm ms e1 e2 e3 p H6 s6 _ hp6 => ⟨s5.trans s6, ws ++ [(nm, ms.map numI)], ?_, L2.Paired.app (paired_mono mono_w s6 p2) (.cons ⟨p, rfl, hp6⟩ .nil)⟩, fun no H6 s6 => q0 (fun a d ws' f => ?_) _ (s02.trans (s3.trans (s5.trans s6)))⟩
      · rw [List.take_add_one, ht]
        exact L2.Paired.app p1 (.cons ⟨nm, ms, e1, e2, e3, rfl⟩ .nil)
      · obtain ⟨_, _, _, _, _, _, _, _, pz⟩ := uniq f
        rcases pz with ⟨z, _⟩ | ⟨_, pz⟩
        · exact e z
        · obtain ⟨r, _, nm, ms, e1, e2, e3, _⟩ := L2.Paired.at pz ht
          exact no ⟨nm, ms, e1, e2, e3⟩
    obtain ⟨s5, ws, p1, p2⟩ := h
    rw [List.length_map, List.take_length] at p1
    have fo := mk (.inr ⟨e, p1⟩)
    have s03 := s02.trans (s3.trans (s5.trans (same_upd hl5 (.lst ys))))
    have hl3 : upd H5 l (.lst ys) l = some (.lst ys) := upd_same
    have hc3 := (s3.trans (s5.trans (same_upd hl5 (.lst ys)))) _ _ hc2
    have pw := paired_mono mono_w (same_upd hl5 (.lst ys)) p2
    generalize upd H5 l (.lst ys) = H3 at s03 hl3 hc3 pw ⊢
    obtain ⟨w60, qm, qn, qk⟩ := q _ _ _ fo
    have hvl : ys.length = ws.length := (pr_len pw).symm
    refine ⟨_, rfl, l, _, rfl, .inl (SqL.of hl3), _, _, rfl, rfl, _, rfl, ?_⟩
    refine ite2 (fun c => ?_) (fun c => ?_)
    · have c2 : (6 : Int) < (ys.length : Nat) := of_decide_eq_true c
      exact fun z => ⟨(by show 1 ≤ sizeLine; decide), qm (by omega) _ s03⟩
    have h6 : ws.length ≤ 6 := by
      have : ¬ (6 : Int) < (ys.length : Nat) := fun z => c (decide_eq_true z)
      omega
    refine ⟨_, rfl, l, rfl, ⟨_, SqL.of hl3⟩, for_list (K := K) (a := l) (xs := ys) (fun i σ H4 => Same H3 H4 ∧ (∃ y : Option V, σ = [some (.str s0), some (.ref tp), some (.ref cp), some (.ref l), y]) ∧ ∀ (j : Nat) (r : WR), j < i → ws[j]? = some r → WOk (numI x) (numI y) r)
      ⟨Same.refl _, ⟨_, rfl⟩, fun j _ z => absurd z (Nat.not_lt_zero j)⟩ (fun i σ H4 _ h => SqL.of (h.1 _ _ hl3)) (fun i u σ H4 hi h => ?_) (fun σ H4 h => ?_)⟩
    · obtain ⟨s4, ⟨yy, rfl⟩, hk⟩ := h
      have hil : i < ws.length := by have := (List.getElem?_eq_some_iff.mp hi).1; omega
      obtain ⟨x', hx', t, rfl, ht⟩ := L2.Paired.at pw (List.getElem?_eq_getElem hil)
      rw [hi] at hx'; cases hx'
      have hc4 := s4 _ _ hc3
      refine ⟨_, rfl, _, rfl, cp, _, _, _, rfl, rfl, SqT.of hc4, atI_nat (j := 0) rfl, _, rfl, cp, _, _, _, rfl, rfl, SqT.of hc4, atI_nat (j := 1) rfl, t, numI x, numI y, ws[i], rfl, s4 _ _ ht, w60 _ (List.getElem_mem hil), fun ok o H5 s5 _ => ?_, fun no H5 s5 => qn h6 ⟨_, List.getElem_mem hil, no⟩ _ (s03.trans (s4.trans s5))⟩
      refine ⟨s4.trans s5, ⟨_, rfl⟩, fun j r hj hr => ?_⟩
      by_cases e : j = i
      · subst e
        rw [List.getElem?_eq_getElem hil] at hr
        injection hr with hr
        rw [← hr]; exact ok
      · exact hk j r (by omega) hr
    · obtain ⟨s4, ⟨yy, rfl⟩, hk⟩ := h
      have hc4 := s4 _ _ hc3
      refine ⟨_, rfl, cp, _, _, _, rfl, rfl, SqT.of hc4, atI_nat (j := 0) rfl, _, rfl, cp, _, _, _, rfl, rfl, SqT.of hc4, atI_nat (j := 1) rfl, _, rfl, (by show 3 ≤ sizeLine; decide), fun rp hrp => ?_⟩
      refine qk h6 (fun r hr => ?_) rp _ _ (s03.trans (s4.trans (same_upd hrp _))) upd_same
      obtain ⟨j, hj⟩ := List.getElem?_of_mem hr
      exact hk j r (by have := (List.getElem?_eq_some_iff.mp hj).1; omega) hj
  · have e : b.length = 0 := Classical.byContradiction fun e => c (decide_eq_true e)
    refine ⟨Nat.zero_le _, fun l hl5 => ?_⟩
    have fo := mk (.inl ⟨e, rfl⟩)
    have s03 := s02.trans (same_upd hl5 (.lst []))
    have hl3 : upd H2 l (.lst []) l = some (.lst []) := upd_same
    have hc3 := (same_upd hl5 (.lst [])) _ _ hc2
    have pw : Paired (rW (upd H2 l (.lst []))) ([] : List WR) ([] : List V) := .nil
    generalize upd H2 l (.lst []) = H3 at s03 hl3 hc3 pw ⊢
    obtain ⟨ys, hys⟩ : ∃ ys : List V, ys = [] := ⟨_, rfl⟩
    obtain ⟨ws, hws⟩ : ∃ ws : List WR, ws = [] := ⟨_, rfl⟩
    rw [← hys] at hl3
    rw [← hys, ← hws] at pw
    rw [← hws] at fo
    obtain ⟨w60, qm, qn, qk⟩ := q _ _ _ fo
    have hvl : ys.length = ws.length := (pr_len pw).symm
    refine ⟨_, rfl, l, _, rfl, .inl (SqL.of hl3), _, _, rfl, rfl, _, rfl, ?_⟩
    refine ite2 (fun c => ?_) (fun c => ?_)
    · have c2 : (6 : Int) < (ys.length : Nat) := of_decide_eq_true c
      exact fun z => ⟨(by show 1 ≤ sizeLine; decide), qm (by omega) _ s03⟩
    have h6 : ws.length ≤ 6 := by
      have : ¬ (6 : Int) < (ys.length : Nat) := fun z => c (decide_eq_true z)
      omega
    refine ⟨_, rfl, l, rfl, ⟨_, SqL.of hl3⟩, for_list (K := K) (a := l) (xs := ys) (fun i σ H4 => Same H3 H4 ∧ (∃ y : Option V, σ = [some (.str s0), some (.ref tp), some (.ref cp), some (.ref l), y]) ∧ ∀ (j : Nat) (r : WR), j < i → ws[j]? = some r → WOk (numI x) (numI y) r)
      ⟨Same.refl _, ⟨_, rfl⟩, fun j _ z => absurd z (Nat.not_lt_zero j)⟩ (fun i σ H4 _ h => SqL.of (h.1 _ _ hl3)) (fun i u σ H4 hi h => ?_) (fun σ H4 h => ?_)⟩
    · obtain ⟨s4, ⟨yy, rfl⟩, hk⟩ := h
      have hil : i < ws.length := by have := (List.getElem?_eq_some_iff.mp hi).1; omega
      obtain ⟨x', hx', t, rfl, ht⟩ := L2.Paired.at pw (List.getElem?_eq_getElem hil)
      rw [hi] at hx'; cases hx'
      have hc4 := s4 _ _ hc3
      refine ⟨_, rfl, _, rfl, cp, _, _, _, rfl, rfl, SqT.of hc4, atI_nat (j := 0) rfl, _, rfl, cp, _, _, _, rfl, rfl, SqT.of hc4, atI_nat (j := 1) rfl, t, numI x, numI y, ws[i], rfl, s4 _ _ ht, w60 _ (List.getElem_mem hil), fun ok o H5 s5 _ => ?_, fun no H5 s5 => qn h6 ⟨_, List.getElem_mem hil, no⟩ _ (s03.trans (s4.trans s5))⟩
      refine ⟨s4.trans s5, ⟨_, rfl⟩, fun j r hj hr => ?_⟩
      by_cases e : j = i
      · subst e
        rw [List.getElem?_eq_getElem hil] at hr
        injection hr with hr
        rw [← hr]; exact ok
      · exact hk j r (by omega) hr
    · obtain ⟨s4, ⟨yy, rfl⟩, hk⟩ := h
      have hc4 := s4 _ _ hc3
      refine ⟨_, rfl, cp, _, _, _, rfl, rfl, SqT.of hc4, atI_nat (j := 0) rfl, _, rfl, cp, _, _, _, rfl, rfl, SqT.of hc4, atI_nat (j := 1) rfl, _, rfl, (by show 3 ≤ sizeLine; decide), fun rp hrp => ?_⟩
      refine qk h6 (fun r hr => ?_) rp _ _ (s03.trans (s4.trans (same_upd hrp _))) upd_same
      obtain ⟨j, hj⟩ := List.getElem?_of_mem hr
      exact hk j r (by have := (List.getElem?_eq_some_iff.mp hj).1; omega) hj
theorem cs_one {x : Str} (h : x ∈ cs3) : ∃ c, x.cps.toList = [c] ∧ is13 c = true := by
  simp only [List.mem_cons, List.not_mem_nil, or_false] at h
  rcases h with rfl | rfl | rfl
  · exact ⟨49, by decide +kernel, by decide⟩
  · exact ⟨50, by decide +kernel, by decide⟩
  · exact ⟨51, by decide +kernel, by decide⟩
theorem flat_w : ∀ (ws : List (List Nat)) (p : List Nat), flatL [32] (p :: ws) = p ++ wL ws
  | [], p => (List.append_nil p).symm
  | q :: r, p => by
    show p ++ [32] ++ flatL [32] (q :: r) = _
    rw [flat_w r q, wL_cons, List.append_assoc]; rfl
theorem flat_nil : ∀ ps : List (List Nat), flatL [] ps = ps.flatten
  | [] => rfl
  | [p] => (List.append_nil p).symm
  | p :: q :: r => by
    show p ++ [] ++ flatL [] (q :: r) = p ++ (q :: r).flatten
    rw [flat_nil (q :: r), List.append_nil]
theorem pr_wish {t : Str} {r : WR} (h : PR t r) : WishL t.cps.toList := by
  obtain ⟨nm, ms, e1, e2, e3, _⟩ := h
  refine ⟨nm.cps.toList, ms.map fun m => m.cps.toList, name_l e2, fun m hm => ?_, ?_⟩
  · obtain ⟨z, hz, rfl⟩ := List.mem_map.mp hm
    exact num_l (e3 z hz)
  · rw [split_cps t " ", e1]
    exact flat_w _ _
theorem form_acc {s : Str} {a d : Int} {ws : List WR} (f : Form s a d ws) : accA (runA .s0 s.cps.toList) = true := by
  obtain ⟨hd, b, x, y, hp, hs, hx, hy, _, _, pz⟩ := f
  have psum := StrLaws.partition_sum s ":"
  rw [hp] at psum
  obtain ⟨cx, ex, ix⟩ := cs_one hx
  obtain ⟨cy, ey, iy⟩ := cs_one hy
  have eh : hd.cps.toList = [cx, 32, cy] := by
    rw [split_cps hd " ", hs]
    show x.cps.toList ++ [32] ++ y.cps.toList = _
    rw [ex, ey]; rfl
  have es : s.cps.toList = cx :: 32 :: cy :: 58 :: b.cps.toList := by
    rw [← psum, app_list, app_list, eh]; rfl
  rw [es, run_head ix iy]
  rcases pz with ⟨z, _⟩ | ⟨z, pz⟩
  · have : b.cps.toList = [] := List.length_eq_zero_iff.mp (by rw [← str_len]; exact z)
    rw [this]; rfl
  · rw [split_cps b ";"]
    refine mid_acc (run_parts (.inl rfl) (fun e => ?_) fun p hp => ?_)
    · have : b.cps.toList = flatL (";" : Str).cps.toList [] := by rw [split_cps b ";"]; rw [e]
      rw [str_len, this] at z
      exact z rfl
    · obtain ⟨t, ht, rfl⟩ := List.mem_map.mp hp
      obtain ⟨i, hi⟩ := List.getElem?_of_mem ht
      obtain ⟨r, _, hr⟩ := L2.Paired.at pz hi
      exact pr_wish hr
theorem no_form {s : Str} (h : accA (runA .s0 s.cps.toList) = false) : ∀ a d ws, ¬ Form s a d ws := fun a d ws f => by
  rw [form_acc f] at h; cases h
theorem pr_eq {r r' : WR} (h : WTx r) (p : PR (wT r) r') : r' = r := by
  obtain ⟨nm, ms, e1, e2, e3, rfl⟩ := p
  rw [wT_split h] at e1
  injection e1 with _ e1
  injection e1 with e1 e4
  subst e1
  rw [← e4, List.map_map]
  refine Prod.ext rfl ?_
  show r.2.map (numI ∘ intS) = r.2
  refine List.map_congr_left (fun z hz => numI_s (h.ns z hz).1 (h.ns z hz).2) |>.trans (List.map_id _)
theorem prs_eq : ∀ {ws ws' : List WR}, (∀ r ∈ ws, WTx r) → Paired PR (ws.map wT) ws' → ws' = ws
  | [], _, _, .nil => rfl
  | r :: ws, _, h, .cons p t => by rw [pr_eq (h r List.mem_cons_self) p, prs_eq (fun x hx => h x (List.mem_cons_of_mem _ hx)) t]
theorem form_line {a d a' d' : Int} {ws ws' : List WR} (ha : CntOk a) (hd : CntOk d) (h : ∀ r ∈ ws, WTx r) (f : Form (lineT a d ws) a' d' ws') : a' = a ∧ d' = d ∧ ws' = ws := by
  obtain ⟨hd', b, x, y, hp, hs, hx, hy, rfl, rfl, pz⟩ := f
  rw [line_part ha hd] at hp
  injection hp with e1 e2
  injection e2 with _ e2
  subst e1; subst e2
  rw [headC_split ha hd] at hs
  injection hs with e1 hs
  injection hs with e2 _
  subst e1; subst e2
  refine ⟨numI_s (by have := ha.1; omega) (by have := ha.2; omega), numI_s (by have := hd.1; omega) (by have := hd.2; omega), ?_⟩
  obtain ⟨b1, b2⟩ := body_split h
  rcases pz with ⟨z, e⟩ | ⟨z, pz⟩
  · rw [e]
    by_cases en : ws = []
    · exact en.symm
    · exact absurd z (b2 en).1
  · have en : ws ≠ [] := fun e => z (b1 e)
    rw [(b2 en).2] at pz
    exact prs_eq h pz
def wTx (ws : List Str) : Str := Txt.join "" (ws.map fun w => (" " : Str) ++ w)
def textS (hd : Str) (W : List (List Str)) : Str := hd ++ ":" ++ Txt.join ";" (W.map wTx)
def cpL (ws : List Str) : List (List Nat) := ws.map fun w => w.cps.toList
theorem wTx_l (ws : List Str) : (wTx ws).cps.toList = wL (cpL ws) := by
  unfold wTx
  rw [flat_join]
  show flatL [] _ = _
  rw [flat_nil]
  unfold wL cpL
  rw [List.map_map, List.map_map]
  congr 1
  refine List.map_congr_left fun w _ => ?_
  show (((" " : Str) ++ w)).cps.toList = _
  rw [app_list]; rfl
theorem textS_l (hd : Str) (W : List (List Str)) : (textS hd W).cps.toList = hd.cps.toList ++ 58 :: flatL [59] (W.map fun ws => wL (cpL ws)) := by
  unfold textS
  rw [app_list, app_list, flat_join, List.append_assoc, List.map_map]
  have : W.map ((fun p => p.cps.toList) ∘ wTx) = W.map fun ws => wL (cpL ws) := List.map_congr_left fun ws _ => wTx_l ws
  rw [this]; rfl
theorem wTx_its (r : WR) : wTx (itS r) = wT r := by
  refine (str_list (wTx_l _)).trans (Eq.symm (str_list ?_))
  rw [wT_list, show (itS r).map (fun p => p.cps.toList) = r.1.cps.toList :: cpL (r.2.map intS) from rfl, flat_w]
  rfl
theorem textS_line (a d : Int) (ws : List WR) : textS (headC a d) (ws.map itS) = lineT a d ws := by
  unfold textS lineT bodyT
  rw [List.map_map]
  have : ws.map (wTx ∘ itS) = ws.map wT := List.map_congr_left fun r _ => wTx_its r
  rw [this]
theorem wish_l {r : WR} (h : WTx r) : WishL (wL (cpL (itS r))) := by
  refine ⟨r.1.cps.toList, cpL (r.2.map intS), name_l h.nm, fun m hm => ?_, rfl⟩
  obtain ⟨x, hx, rfl⟩ := List.mem_map.mp hm
  obtain ⟨z, hz, rfl⟩ := List.mem_map.mp hx
  exact num_l (num_gen (h.ns z hz).1 (h.ns z hz).2).1
theorem head_l {a d : Int} (ha : CntOk a) (hd : CntOk d) : ∃ x y, (headC a d).cps.toList = [x, 32, y] ∧ is13 x = true ∧ is13 y = true := by
  obtain ⟨x, ex, ix⟩ := cs_one (cnt_few ha).2.2.2
  obtain ⟨y, ey, iy⟩ := cs_one (cnt_few hd).2.2.2
  refine ⟨x, y, ?_, ix, iy⟩
  unfold headC
  rw [app_list, app_list, ex, ey]; rfl
theorem bad_text {a d : Int} (ha : CntOk a) (hd : CntOk d) {as bs : List (List Str)} {p : List Str} {s : Str} (suf : List Nat) (hs : suf = [] ∨ ∃ r, suf = 59 :: r) (es : s.cps.toList = (textS (headC a d) (as ++ p :: bs)).cps.toList ++ suf)
    (h : ∀ ws ∈ as, WishL (wL (cpL ws))) (hp : ∀ q, ahd q → runA q (wL (cpL p)) = .dead ∨ runA q (wL (cpL p)) = .bl) : ∀ a d ws, ¬ Form s a d ws := by
  obtain ⟨x, y, eh, ix, iy⟩ := head_l ha hd
  refine no_form ?_
  rw [es, textS_l, eh, List.map_append, List.map_cons]
  show accA (runA .s0 (x :: 32 :: y :: 58 :: (flatL [59] _ ++ suf))) = false
  rw [run_head ix iy]
  exact bad_part (.inl rfl) (fun z hz => by
    obtain ⟨ws, hw, rfl⟩ := List.mem_map.mp hz
    exact h ws hw) hp suf hs
theorem bad_suf {a d : Int} (ha : CntOk a) (hd : CntOk d) {ws : List WR} (h : ∀ r ∈ ws, WTx r) (hne : ws ≠ []) {s : Str} (suf : List Nat) (es : s.cps.toList = (lineT a d ws).cps.toList ++ suf) (hq : ∀ q, midA q = true → accA (runA q suf) = false) : ∀ a d ws, ¬ Form s a d ws := by
  obtain ⟨x, y, eh, ix, iy⟩ := head_l ha hd
  refine no_form ?_
  rw [es, ← textS_line, textS_l, eh]
  show accA (runA .s0 (x :: 32 :: y :: 58 :: (flatL [59] _ ++ suf))) = false
  rw [run_head ix iy, run_app]
  refine hq _ (run_parts (.inl rfl) (fun e => ?_) fun p hp => ?_)
  · exact hne (List.map_eq_nil_iff.mp (List.map_eq_nil_iff.mp e))
  · obtain ⟨z, hz, rfl⟩ := List.mem_map.mp hp
    obtain ⟨r, hr, rfl⟩ := List.mem_map.mp hz
    exact wish_l (h r hr)
def spCell (K : PySem.W.Frag) : Sp := fun vs H Q _ => ∃ (a : Addr) (ns : List Int) (k : Int), vs = [.ref a, .int k] ∧ SqL K H a (ns.map V.int) ∧ ns.length ≤ 63 ∧ 0 ≤ k ∧ ∀ z : Int, Q (.int z) H
theorem ok_cell (F : DefAt K mg "_law_cell_at" s_law_cell_at ["_law_script", "_law_k"]) (T : Txt mg) : Dn P w K mg base "_law_cell_at" 1 ["_law_script", "_law_k"] (spCell K) := by
  have sc := sc_law_cell_at
  refine F.ok sc (fun vs H Q E h => ?_) (fun f cdv A outer s H vs Q E hr h => ?_)
  · obtain ⟨_, _, _, rfl, _⟩ := h; rfl
  obtain ⟨a, ns, k, rfl, hS, h63, h0, q⟩ := h
  have hl : (ns.map V.int).length = ns.length := List.length_map _
  refine ⟨_, (pss_cons (ps_if (pt_cmpR op_lt (pv 1) (pe_callB (clLen (K := K) rfl) rfl T.b_len PySem.boot_len (pa_cons (pv 0) pa_nil)) (nomark _))
      (pss_one (ps_ret (pe_ix (ixL (K := K) rfl) (pv 0) (pv 1) (fun _ _ => rfl))))
      pss_nil)
      (pss_one (ps_ret pe_int))), ?_⟩
  refine ⟨_, rfl, _, rfl, a, _, rfl, .inl hS, _, _, rfl, rfl, _, rfl, ?_⟩
  refine ite2 (fun c => ?_) (fun c => ?_)
  · have c' : k < (((ns.map V.int).length : Nat) : Int) := of_decide_eq_true c
    rw [hl] at c'
    exact ⟨_, rfl, _, rfl, a, _, _, _, rfl, rfl, hS, atI_ints h0 c', q _⟩
  · exact q _
theorem log_s {z : Int} (h0 : 0 ≤ z) (h1 : z < 1000000) : z.natAbs.log2 < 1920 := by
  by_cases e : z.natAbs = 0
  · rw [e]; decide
  · exact Nat.lt_trans ((Nat.log2_lt e).mpr (Nat.lt_of_lt_of_le (show z.natAbs < 1000000 by omega) (by decide : 1000000 ≤ 2 ^ 20))) (by decide)
abbrev ws8 : List Str := ["answer", "often", "within", "never", "not", "only", "hope", "calm"]
theorem sw {x y : Str} : decide (V.str x = V.str y) = decide (x = y) := by rw [Bool.eq_iff_iff]; simp
def spWish : Sp := fun vs H Q _ => ∃ c a d : Int, vs = [.int c, .int a, .int d] ∧ CntOk a ∧ CntOk d ∧ ∀ (p : Addr) (r : WR) (H' : Hp), Same H H' → H p = none → H' p = some (.lst ((itS r).map V.str)) → WOk a d r → Q (.ref p) H'
theorem ok_wish (F : DefAt K mg "_law_wish" s_law_wish ["_law_cell", "_law_asks", "_law_deeds"]) (T : Txt mg) : Dn P w K mg base "_law_wish" 1 ["_law_cell", "_law_asks", "_law_deeds"] spWish := by
  have sc := sc_law_wish
  refine F.ok sc (fun vs H Q E h => ?_) (fun f cdv A outer s H vs Q E hr h => ?_)
  · obtain ⟨_, _, _, rfl, _⟩ := h; rfl
  obtain ⟨c, a, d, rfl, ha, hd, q⟩ := h
  have a1 := ha.1
  have a3 := ha.2
  have d1 := hd.1
  have d3 := hd.2
  refine ⟨_, (pss_cons (ps_set (i := 3) sc.nd rfl (Or.inl rfl) (pe_strs (Lits.cons (Lits.cons (Lits.cons (Lits.cons (Lits.cons (Lits.cons (Lits.cons (Lits.cons Lits.nil))))))))))
      (pss_cons (ps_set (i := 4) sc.nd rfl (Or.inl rfl) (pe_ix (ixL (K := K) rfl) (pv 3) (pe_op op_mod (pe_op op_mod (pe_op op_mul (pv 0) pe_int) pe_int) pe_int) (fun _ _ => rfl)))
      (pss_cons (ps_set (i := 5) sc.nd rfl (Or.inl rfl) (pe_callTy call_str_int rfl T.b_str PyProof.Rows.boot_str (pa_cons (pe_op op_mod (pe_op op_mod (pe_op op_mul (pv 0) pe_int) pe_int) (pv 1)) pa_nil)))
      (pss_cons (ps_set (i := 6) sc.nd rfl (Or.inl rfl) (pe_callTy call_str_int rfl T.b_str PyProof.Rows.boot_str (pa_cons (pe_op op_mod (pe_op op_mod (pe_op op_mul (pv 0) pe_int) pe_int) (pv 2)) pa_nil)))
      (pss_cons (ps_if (pt_cmpR (inS (K := K) rfl) (pv 4) (pe_tup (pa_cons pe_str (pa_cons pe_str pa_nil))) rfl)
      (pss_one (ps_ret (pe_lst (pa_cons (pv 4) (pa_cons (pv 5) pa_nil)))))
      pss_nil)
      (pss_cons (ps_if (pt_cmpR op_eq (pv 4) pe_str (nomark _))
      (pss_one (ps_ret (pe_lst (pa_cons (pv 4) (pa_cons (pv 6) pa_nil)))))
      pss_nil)
      (pss_cons (ps_if (pt_cmpR op_eq (pv 4) pe_str (nomark _))
      (pss_one (ps_ret (pe_lst (pa_cons (pv 4) (pa_cons (pv 6) (pa_cons (pe_callTy call_str_int rfl T.b_str PyProof.Rows.boot_str (pa_cons (pe_op op_mod (pe_op op_mod (pe_op op_mul (pv 0) pe_int) pe_int) (pv 2)) pa_nil)) pa_nil))))))
      pss_nil)
      (pss_cons (ps_if (pt_cmpR op_eq (pv 4) pe_str (nomark _))
      (pss_one (ps_ret (pe_lst (pa_cons (pv 4) (pa_cons (pv 5) (pa_cons (pv 6) (pa_cons (pe_callTy call_str_int rfl T.b_str PyProof.Rows.boot_str (pa_cons (pe_op op_mod (pe_op op_mod (pe_op op_mul (pv 0) pe_int) pe_int) pe_int) pa_nil)) pa_nil)))))))
      pss_nil)
      (pss_one (ps_ret (pe_lst (pa_cons (pv 4) (pa_cons (pv 5) (pa_cons (pv 6) pa_nil)))))))))))))), ?_⟩
  refine ⟨(by show 8 ≤ sizeLine; decide), fun wp hwp => ?_⟩
  have s1 := same_upd hwp (.lst (ws8.map V.str))
  have k1 : upd H wp (.lst (ws8.map V.str)) wp = some (.lst (ws8.map V.str)) := upd_same
  generalize upd H wp (.lst (ws8.map V.str)) = H1 at s1 k1 ⊢
  have j0 := Int.emod_nonneg (c * 30011 % 65521) (show (8 : Int) ≠ 0 by decide)
  have j8 := Int.emod_lt_of_pos (c * 30011 % 65521) (show (0 : Int) < 8 by decide)
  obtain ⟨word, hw, hm⟩ : ∃ word : Str, atI (ws8.map V.str) (c * 30011 % 65521 % 8) = some (.str word) ∧ word ∈ ws8 := by
    obtain ⟨n, hn⟩ := Int.eq_ofNat_of_zero_le j0
    rw [hn] at j8 ⊢
    have nl : n < ws8.length := by show n < 8; omega
    exact ⟨ws8[n], atI_nat (j := n) (by rw [List.getElem?_map, List.getElem?_eq_getElem nl]; rfl), List.getElem_mem nl⟩
  refine ⟨_, rfl, _, rfl, _, _, rfl, rfl, .inr ⟨by decide, by decide⟩, _, _, rfl, rfl, (show (0 : Int) < 65521 by decide), _, _, rfl, rfl, (show (0 : Int) < 8 by decide), wp, _, _, .str word, rfl, rfl, SqL.of k1, hw, ?_⟩
  have b1 : 0 ≤ c * 16807 % 10007 % a ∧ c * 16807 % 10007 % a < a := ⟨Int.emod_nonneg _ (by omega), Int.emod_lt_of_pos _ (by omega)⟩
  have b2 : 0 ≤ c * 48271 % 20011 % d ∧ c * 48271 % 20011 % d < d := ⟨Int.emod_nonneg _ (by omega), Int.emod_lt_of_pos _ (by omega)⟩
  have b3 : 0 ≤ c * 40692 % 32749 % d ∧ c * 40692 % 32749 % d < d := ⟨Int.emod_nonneg _ (by omega), Int.emod_lt_of_pos _ (by omega)⟩
  have b4 : 0 ≤ c * 69621 % 50021 % 7 ∧ c * 69621 % 50021 % 7 < 7 := ⟨Int.emod_nonneg _ (by omega), Int.emod_lt_of_pos _ (by omega)⟩
  refine ⟨_, rfl, _, _, rfl, rfl, .inr ⟨by decide, by decide⟩, _, _, rfl, rfl, (show (0 : Int) < 10007 by decide), _, rfl, _, _, rfl, rfl, (show (0 : Int) < a by omega), _, rfl, log_s b1.1 (by omega), ?_⟩
  refine ⟨_, rfl, _, _, rfl, rfl, .inr ⟨by decide, by decide⟩, _, _, rfl, rfl, (show (0 : Int) < 20011 by decide), _, rfl, _, _, rfl, rfl, (show (0 : Int) < d by omega), _, rfl, log_s b2.1 (by omega), ?_⟩
  refine ⟨_, rfl, (by show 2 ≤ sizeLine; decide), fun tp htp => ⟨tp, _, rfl, .inr (SqT.of upd_same), rfl, rfl, _, rfl, ?_⟩⟩
  have s2 := s1.trans (same_upd htp (.tup [V.str "hope", .str "calm"]))
  generalize upd H1 tp (.tup [V.str "hope", .str "calm"]) = H2 at s2 ⊢
  have ei : (if false = true then !inV (V.str word) [V.str "hope", V.str "calm"] else inV (V.str word) [V.str "hope", V.str "calm"]) = decide (word ∈ (["hope", "calm"] : List Str)) := inV_str word ["hope", "calm"]
  rw [ei]
  refine ite2 (fun c1 => ?_) (fun c1 => ?_)
  · refine ⟨_, rfl, _, rfl, (by show 2 ≤ sizeLine; decide), fun p hp => q p (word, [c * 16807 % 10007 % a]) _ (s2.trans (same_upd hp _)) (s2.free hp) upd_same (wok_of (ks := ["ask"]) ?_ (ink_cons (k_ask b1.1 b1.2) (ink_nil a d)))⟩
    have c2 := of_decide_eq_true c1
    simp only [List.mem_cons, List.not_mem_nil, or_false] at c2
    rcases c2 with rfl | rfl <;> decide +kernel
  have n1 : ¬ word ∈ (["hope", "calm"] : List Str) := fun z => c1 (decide_eq_true z)
  refine ⟨_, rfl, rfl, _, rfl, ?_⟩
  rw [sw]
  refine ite2 (fun c2 => ?_) (fun c2 => ?_)
  · have e := of_decide_eq_true c2
    subst e
    exact ⟨_, rfl, _, rfl, (by show 2 ≤ sizeLine; decide), fun p hp => q p ("often", [c * 48271 % 20011 % d]) _ (s2.trans (same_upd hp _)) (s2.free hp) upd_same (wok_of (ks := ["deed"]) (by decide +kernel) (ink_cons (k_deed b2.1 b2.2) (ink_nil a d)))⟩
  have n2 : ¬ word = "often" := fun z => c2 (decide_eq_true z)
  refine ⟨_, rfl, rfl, _, rfl, ?_⟩
  rw [sw]
  refine ite2 (fun c3 => ?_) (fun c3 => ?_)
  · have e := of_decide_eq_true c3
    subst e
    exact ⟨_, rfl, _, rfl, _, rfl, _, _, rfl, rfl, .inr ⟨by decide, by decide⟩, _, _, rfl, rfl, (show (0 : Int) < 32749 by decide), _, rfl, _, _, rfl, rfl, (show (0 : Int) < d by omega), _, rfl, log_s b3.1 (by omega), (by show 3 ≤ sizeLine; decide), fun p hp => q p ("never", [c * 48271 % 20011 % d, c * 40692 % 32749 % d]) _ (s2.trans (same_upd hp _)) (s2.free hp) upd_same (wok_of (ks := ["deed", "deed"]) (by decide +kernel) (ink_cons (k_deed b2.1 b2.2) (ink_cons (k_deed b3.1 b3.2) (ink_nil a d))))⟩
  have n3 : ¬ word = "never" := fun z => c3 (decide_eq_true z)
  refine ⟨_, rfl, rfl, _, rfl, ?_⟩
  rw [sw]
  refine ite2 (fun c4 => ?_) (fun c4 => ?_)
  · have e := of_decide_eq_true c4
    subst e
    exact ⟨_, rfl, _, rfl, _, rfl, _, rfl, _, _, rfl, rfl, .inr ⟨by decide, by decide⟩, _, _, rfl, rfl, (show (0 : Int) < 50021 by decide), _, _, rfl, rfl, (show (0 : Int) < 7 by decide), _, rfl, log_s b4.1 (by omega), (by show 4 ≤ sizeLine; decide), fun p hp => q p ("within", [c * 16807 % 10007 % a, c * 48271 % 20011 % d, c * 69621 % 50021 % 7]) _ (s2.trans (same_upd hp _)) (s2.free hp) upd_same (wok_of (ks := ["ask", "deed", "ticks"]) (by decide +kernel) (ink_cons (k_ask b1.1 b1.2) (ink_cons (k_deed b2.1 b2.2) (ink_cons (k_ticks b4.1 b4.2) (ink_nil a d)))))⟩
  have n4 : ¬ word = "within" := fun z => c4 (decide_eq_true z)
  refine ⟨_, rfl, _, rfl, _, rfl, (by show 3 ≤ sizeLine; decide), fun p hp => q p (word, [c * 16807 % 10007 % a, c * 48271 % 20011 % d]) _ (s2.trans (same_upd hp _)) (s2.free hp) upd_same (wok_of (ks := ["ask", "deed"]) ?_ (ink_cons (k_ask b1.1 b1.2) (ink_cons (k_deed b2.1 b2.2) (ink_nil a d))))⟩
  simp only [List.mem_cons, List.not_mem_nil, or_false] at hm n1
  rcases hm with rfl | rfl | rfl | rfl | rfl | rfl | rfl | rfl
  · decide +kernel
  · exact absurd rfl n2
  · exact absurd rfl n4
  · exact absurd rfl n3
  · decide +kernel
  · decide +kernel
  · exact absurd (.inl rfl) n1
  · exact absurd (.inr rfl) n1
abbrev rWs : Rel (List (List Str)) := rLst (rLst rStr)
theorem strs_paired {H : Hp} : ∀ {xs : List Str} {vs : List V}, Paired (rStr H) xs vs → vs = xs.map V.str
  | _, _, .nil => rfl
  | _, _, .cons h t => by rw [List.map_cons, ← strs_paired t]; exact congrArg (· :: _) h
theorem strs_rel {H : Hp} {a : Addr} {xs : List Str} (h : H a = some (.lst (xs.map V.str))) : rLst rStr H xs (.ref a) := ⟨a, _, rfl, h, paired_map (F := rStr H) (f := V.str) (fun _ => rfl) xs⟩
theorem sum_b (B : Nat) (l : List Str) (h : ∀ x ∈ l, x.length ≤ B) : (l.map fun x => x.length).sum ≤ l.length * B := sum_le B l h
def spText (K : PySem.W.Frag) : Sp := fun vs H Q _ => ∃ (hd : Str) (v : V) (W : List (List Str)), vs = [.str hd, v] ∧ rWs H W v ∧ hd.length ≤ 100 ∧ W.length ≤ 16 ∧ (∀ ws ∈ W, ws.length ≤ 5 ∧ ∀ w ∈ ws, w.length ≤ 20) ∧ ∀ H', Same H H' → (textS hd W).length ≤ 4000 → Q (.str (textS hd W)) H'
theorem ok_text (F : DefAt K mg "_law_text" s_law_text ["_law_head", "_law_wishes"]) (T : Txt mg) : Dn P w K mg base "_law_text" 1 ["_law_head", "_law_wishes"] (spText K) := by
  have sc := sc_law_text
  refine F.ok sc (fun vs H Q E h => ?_) (fun f cdv A outer s H vs Q E hr h => ?_)
  · obtain ⟨_, _, _, rfl, _⟩ := h; rfl
  obtain ⟨hd, v, W, rfl, hv, hl, h16, h5, q⟩ := h
  obtain ⟨g, us, rfl, hg, pr⟩ := hv
  have ul := pr_len pr
  have e1 : (" " : Str).length = 1 := by decide +kernel
  have e2 : (":" : Str).length = 1 := by decide +kernel
  have e3 : ("" : Str).length = 0 := by decide +kernel
  have e4 : (";" : Str).length = 1 := by decide +kernel
  have wl : ∀ ws ∈ W, (wTx ws).length ≤ 105 := fun ws hw => by
    obtain ⟨w1, w2⟩ := h5 ws hw
    have := join_few (y := "") (ps := ws.map fun w => (" " : Str) ++ w) (B := 21) fun x hx => by
      obtain ⟨w, hw, rfl⟩ := List.mem_map.mp hx
      rw [app_len, e1]; have := w2 w hw; omega
    rw [List.length_map, e3] at this
    unfold wTx
    omega
  have bl : (Txt.join ";" (W.map wTx)).length ≤ 16 * 106 := by
    have := join_few (y := ";") (ps := W.map wTx) (B := 105) fun x hx => by
      obtain ⟨ws, hw, rfl⟩ := List.mem_map.mp hx
      exact wl ws hw
    rw [List.length_map, e4] at this
    exact Nat.le_trans this (Nat.mul_le_mul h16 (Nat.le_refl _))
  refine ⟨_, (pss_one (ps_ret (pe_op op_add_str (pe_op op_add_str (pv 0) pe_str) (pe_bm PySem.F.plainAttrs_str PySem.F.slot_str_join PySem.F.type_str_join mt_join pe_str (pa_cons (pe_lc (defScope s_law_text) ["_law_head", "_law_wishes"] ["_law_wish_here"] 1 [] (pi_list (pv 1)) (fun _ _ _ _ _ _ => (ptg_name (show List.Nodup (["_law_wish_here"] : List Str) by decide +kernel) rfl rfl)) (fun _ _ _ _ _ _ => pts_nil) (fun _ _ _ _ _ _ => (pe_bmJ (K := K) rfl PySem.F.plainAttrs_str PySem.F.slot_str_join PySem.F.type_str_join (mtJoin (K := K) rfl) pe_str (pa_cons (by exact (pe_lcN2  ["_law_wish_here"] ["_law_word"] 1 [] (pi_list0 (pv 0)) (fun _ _ _ _ _ _ => (ptg_name (show List.Nodup (["_law_word"] : List Str) by decide +kernel) rfl rfl)) (fun _ _ _ _ _ _ => pts_nil) (fun _ _ _ _ _ _ => (pe_op op_add_str pe_str (pv 0))))) pa_nil)))) pa_nil))))), ?_⟩
  refine ⟨_, rfl, _, _, rfl, rfl, small (m := 1000) (by rw [e2]; omega), rfl, _, rfl, g, rfl, ⟨_, SqL.of hg⟩, comp_listD (K := K) (a := g) (xs := us) (fun i ys H3 => Same H H3 ∧ ys = ((W.take i).map wTx).map V.str) ⟨Same.refl _, rfl⟩ (small (m := 1000) (by omega)) (fun i ys H3 hi h => ?_) (fun i u ys H3 hi h => ?_) (fun ys H3 h p hp => ?_)⟩
  · obtain ⟨s3, rfl⟩ := h
    exact ⟨SqL.of (s3 _ _ hg), by simp; omega⟩
  · obtain ⟨s3, rfl⟩ := h
    obtain ⟨ws, hw, a, vs, rfl, ha, pv⟩ := L2.Paired.ta pr hi
    rw [strs_paired pv] at ha
    obtain ⟨w1, w2⟩ := h5 ws (List.mem_of_getElem? hw)
    refine comp_yes ?_
    refine ⟨rfl, _, rfl, a, rfl, ⟨_, SqL.of (s3 _ _ ha)⟩, comp_listD (K := K0) (a := a) (xs := ws.map V.str) (fun j zs H4 => H4 = H3 ∧ zs = ((ws.take j).map fun w => (" " : Str) ++ w).map V.str) ⟨rfl, rfl⟩ (small (m := 1000) (by rw [List.length_map]; omega)) (fun j zs H4 hj h => ?_) (fun j u zs H4 hj h => ?_) (fun zs H4 h lc hlc => ?_)⟩
    · obtain ⟨rfl, rfl⟩ := h
      exact ⟨SqL.of (s3 _ _ ha), by simp; omega⟩
    · obtain ⟨rfl, rfl⟩ := h
      rw [List.getElem?_map] at hj
      obtain ⟨x, hx, rfl⟩ : ∃ x, ws[j]? = some x ∧ u = V.str x := by
        cases e : ws[j]? with
        | none => rw [e] at hj; cases hj
        | some z => rw [e] at hj; cases hj; exact ⟨z, rfl, rfl⟩
      have := w2 x (List.mem_of_getElem? hx)
      refine comp_yes ⟨_, rfl, _, _, rfl, rfl, small (m := 1000) (by rw [e1]; omega), rfl, ?_⟩
      rw [List.take_add_one, hx, List.map_append, List.map_append]; rfl
    · obtain ⟨rfl, rfl⟩ := h
      rw [List.length_map, List.take_length]
      refine ⟨"", lc, ws.map fun w => (" " : Str) ++ w, rfl, rfl, SqL.of upd_same, (by rw [e3]; decide), ?_, s3.trans (same_upd hlc _), ?_⟩
      · have := sum_b 21 (ws.map fun w => (" " : Str) ++ w) fun x hx => by
          obtain ⟨w, hw, rfl⟩ := List.mem_map.mp hx
          rw [app_len, e1]; have := w2 w hw; omega
        rw [List.length_map] at this
        rw [List.length_map]
        omega
      · rw [List.take_add_one, hw, List.map_append, List.map_append]; rfl
  obtain ⟨s3, rfl⟩ := h
  rw [← ul, List.take_length]
  have s4 := s3.trans (same_upd hp (.lst ((W.map wTx).map V.str)))
  refine ⟨";", p, W.map wTx, rfl, rfl, SqL.of upd_same, (by rw [e4]; decide), ?_, _, _, rfl, rfl, small (m := 10000) (by rw [app_len, e2]; omega), q _ s4 ?_⟩
  · have := sum_b 105 (W.map wTx) fun x hx => by
      obtain ⟨ws, hw, rfl⟩ := List.mem_map.mp hx
      exact wl ws hw
    rw [List.length_map] at this
    rw [List.length_map]
    omega
  · unfold textS
    rw [app_len, app_len, e2]; omega
theorem wok_ks {a d : Int} {word : Str} {xs : List Int} {ks : List Str} (h : (word, ks) ∈ tabNK) (z : WOk a d (word, xs)) : InK a d xs ks := by
  obtain ⟨ks', h', hl', hin'⟩ := z.k
  have e := tab_one _ h' _ h rfl
  injection e with _ e
  subst e
  exact ⟨hl', hin'⟩
structure NW (a d : Int) (r : WR) : Prop where
  tx : WTx r
  no : ¬ WOk a d r
theorem nw_len {a d : Int} {word : Str} {xs : List Int} {ks : List Str} (h : (word, ks) ∈ tabNK) (hn : isName word = true) (hs : ∀ x ∈ xs, 0 ≤ x ∧ x < 1000000) (hl : xs.length ≤ 4) (ne : xs.length ≠ ks.length) : NW a d (word, xs) :=
  ⟨⟨hn, hs, hl⟩, fun z => ne (wok_ks h z).1⟩
theorem nw_at {a d : Int} {word : Str} {xs : List Int} {ks : List Str} (h : (word, ks) ∈ tabNK) (hn : isName word = true) (hs : ∀ x ∈ xs, 0 ≤ x ∧ x < 1000000) (hl : xs.length ≤ 4) {i : Nat} {x : Int} {k : Str} (hx : xs[i]? = some x) (hk : ks[i]? = some k) (hb : bnd a d k ≤ x) : NW a d (word, xs) :=
  ⟨⟨hn, hs, hl⟩, fun z => by have := ((wok_ks h z).2 i x k hx hk).2.2; omega⟩
abbrev bad8 : List Str := ["answered", "a", "always", "oftener", "with", "nots", "hop", "kalm"]
theorem bad_names : ∀ x ∈ bad8, isName x = true ∧ ∀ p ∈ tabNK, p.1 ≠ x := by
  have h : bad8.all (fun x => isName x && tabNK.all fun p => !decide (p.1 = x)) = true := by decide +kernel
  intro x hx
  have := List.all_eq_true.mp h x hx
  rw [Bool.and_eq_true] at this
  refine ⟨this.1, fun p hp e => ?_⟩
  have := List.all_eq_true.mp this.2 p hp
  simp [e] at this
theorem its_set0 (r : WR) (x : Str) : ((itS r).map V.str).set 0 (.str x) = (itS (x, r.2)).map V.str := rfl
theorem its_pop {r : WR} (h : r.2 ≠ []) : ((itS r).map V.str).dropLast = (itS (r.1, r.2.dropLast)).map V.str := by
  unfold itS
  rw [List.map_cons, List.map_cons, List.dropLast_cons_of_ne_nil (fun e => h (List.map_eq_nil_iff.mp (List.map_eq_nil_iff.mp e))), List.map_dropLast, List.map_dropLast]
theorem its_app (r : WR) (z : Int) : (itS r).map V.str ++ [V.str (intS z)] = (itS (r.1, r.2 ++ [z])).map V.str := by
  unfold itS
  rw [List.map_cons, List.map_cons, List.map_append, List.map_append]; rfl
theorem its_set (r : WR) (i : Nat) (z : Int) : ((itS r).map V.str).set (i + 1) (.str (intS z)) = (itS (r.1, r.2.set i z)).map V.str := by
  unfold itS
  rw [List.map_cons, List.map_cons, List.set_cons_succ, List.map_set, List.map_set]
theorem its_len (r : WR) : ((itS r).map V.str).length = r.2.length + 1 := by unfold itS; rw [List.length_map, List.length_cons, List.length_map]
theorem set_rng {xs : List Int} {i : Nat} {z : Int} (h : ∀ x ∈ xs, 0 ≤ x ∧ x < 1000000) (hz : 0 ≤ z ∧ z < 1000000) : ∀ x ∈ xs.set i z, 0 ≤ x ∧ x < 1000000 := fun x hx => by
  rcases List.mem_or_eq_of_mem_set hx with h' | h'
  · exact h x h'
  · rw [h']; exact hz
def Md (wa : Addr) (H : Hp) (a d c way : Int) (A : WR → Prop) : St → Hp → Prop := fun σ' H1 => ∃ (r : WR) (y5 y6 : Option V), σ' = [some (.ref wa), some (.int a), some (.int d), some (.int c), some (.int way), y5, y6] ∧ (∀ b o, b ≠ wa → H b = some o → H1 b = some o) ∧ H1 wa = some (.lst ((itS r).map V.str)) ∧ A r
theorem stay_put {wa : Addr} {H H1 : Hp} {o' : HO} (h : ∀ b o, b ≠ wa → H b = some o → H1 b = some o) : ∀ b o, b ≠ wa → H b = some o → upd H1 wa o' b = some o := fun b o n e => by rw [upd_ne n]; exact h b o n e
theorem stay_same {wa : Addr} {H H1 H2 : Hp} (h : ∀ b o, b ≠ wa → H b = some o → H1 b = some o) (s : Same H1 H2) : ∀ b o, b ≠ wa → H b = some o → H2 b = some o := fun b o n e => s _ _ (h b o n e)
theorem de {x y : Int} : decide (V.int x = V.int y) = decide (x = y) := by rw [Bool.eq_iff_iff]; simp
def kv6 (a : Int) : List (Key × V) := [(.inr "answer", .int a), (.inr "within", .int a), (.inr "not", .int a), (.inr "only", .int a), (.inr "hope", .int a), (.inr "calm", .int a)]
theorem kv_first {word : Str} {ks : List Str} (h : (word, ks) ∈ tabNK) (a d : Int) : ∃ k0, ks[0]? = some k0 ∧ (valV (kv6 a) (.inr word)).getD (.int d) = .int (bnd a d k0) := by
  simp only [tabNK, List.mem_cons, List.not_mem_nil, or_false, Prod.mk.injEq] at h
  rcases h with ⟨rfl, rfl⟩ | ⟨rfl, rfl⟩ | ⟨rfl, rfl⟩ | ⟨rfl, rfl⟩ | ⟨rfl, rfl⟩ | ⟨rfl, rfl⟩ | ⟨rfl, rfl⟩ | ⟨rfl, rfl⟩ <;> exact ⟨_, rfl, rfl⟩
theorem last_kind {word : Str} {ks : List Str} (h : (word, ks) ∈ tabNK) : (ks.length = 2 → ks[1]? = some ("deed" : Str)) ∧ (ks.length = 3 → ks[2]? = some ("ticks" : Str)) := by
  simp only [tabNK, List.mem_cons, List.not_mem_nil, or_false, Prod.mk.injEq] at h
  rcases h with ⟨rfl, rfl⟩ | ⟨rfl, rfl⟩ | ⟨rfl, rfl⟩ | ⟨rfl, rfl⟩ | ⟨rfl, rfl⟩ | ⟨rfl, rfl⟩ | ⟨rfl, rfl⟩ | ⟨rfl, rfl⟩ <;> refine ⟨fun z => ?_, fun z => ?_⟩ <;> first | rfl | (exfalso; revert z; decide)
def spNoW : Sp := fun vs H Q _ => ∃ (wa : Addr) (a d c : Int) (r : WR), vs = [.ref wa, .int a, .int d, .int c] ∧ H wa = some (.lst ((itS r).map V.str)) ∧ CntOk a ∧ CntOk d ∧ WOk a d r ∧ 0 ≤ c ∧ c < 65521 ∧
  ∀ (r' : WR) (H' : Hp), (∀ b o, b ≠ wa → H b = some o → H' b = some o) → H' wa = some (.lst ((itS r').map V.str)) → NW a d r' → Q .non H'
theorem ok_noW (F : DefAt K mg "_law_no_wish" s_law_no_wish ["_law_wish_here", "_law_asks", "_law_deeds", "_law_cell"]) (T : Txt mg) : Dn P w K mg base "_law_no_wish" 1 ["_law_wish_here", "_law_asks", "_law_deeds", "_law_cell"] spNoW := by
  have sc := sc_law_no_wish
  refine F.ok sc (fun vs H Q E h => ?_) (fun f cdv A outer s H vs Q E hr h => ?_)
  · obtain ⟨_, _, _, _, _, rfl, _⟩ := h; rfl
  obtain ⟨wa, a, d, c, r, rfl, hwa, ha, hd, ok, c0, c6, q⟩ := h
  refine ⟨_, (pss_cons (ps_set (i := 4) sc.nd rfl (Or.inl rfl) (pe_op op_mod (pv 3) pe_int))
      (pss_cut (ps_if (pt_cmpR op_eq (pv 4) pe_int (nomark _))
      (pss_one (ps_asg (pe_ix (ixL (K := K) rfl) (pe_strs (Lits.cons (Lits.cons (Lits.cons (Lits.cons (Lits.cons (Lits.cons (Lits.cons (Lits.cons Lits.nil))))))))) (pe_op op_mod (pe_op op_fdiv (pv 3) pe_int) pe_int) (fun _ _ => rfl)) (pg_sub (pv 0) pe_int set_list)))
      pss_nil)
      (pss_cut (ps_if (pt_cmpR op_eq (pv 4) pe_int (nomark _))
      (pss_one (ps_expr (pe_bm0 PySem.F.plainAttrs_list PySem.F.slot_list_pop PySem.F.type_list_pop mt_pop (pv 0))))
      pss_nil)
      (pss_cut (ps_if (pt_cmpR op_eq (pv 4) pe_int (nomark _))
      (pss_one (ps_expr (pe_bm PySem.F.plainAttrs_list PySem.F.slot_list_append PySem.F.type_list_append mt_append (pv 0) (pa_cons (pe_callTy call_str_int rfl T.b_str PyProof.Rows.boot_str (pa_cons (pe_op op_mod (pe_op op_fdiv (pv 3) pe_int) pe_int) pa_nil)) pa_nil))))
      pss_nil)
      (pss_cut (ps_if (pt_cmpR op_eq (pv 4) pe_int (nomark _))
      (pss_cons (ps_set (i := 5) sc.nd rfl (Or.inl rfl) (pe_disp (pps_cons pe_str (pv 1) (pps_cons pe_str (pv 1) (pps_cons pe_str (pv 1) (pps_cons pe_str (pv 1) (pps_cons pe_str (pv 1) (pps_cons pe_str (pv 1) pps_nil)))))) rfl rfl (fun z => by cases z) (by decide)))
      (pss_one (ps_asg (pe_callTy call_str_int rfl T.b_str PyProof.Rows.boot_str (pa_cons (pe_op op_add (pe_dget2 (hu_n hr 1) (pv 5) (pe_ix (ixL (K := K) rfl) (pv 0) pe_int (fun _ _ => rfl)) (pv 2) ⟨rfl, rfl, rfl, rfl⟩) (pe_op op_mul (pe_op op_mod (pe_op op_fdiv (pv 3) pe_int) pe_int) (pe_op op_fdiv (pv 3) pe_int))) pa_nil)) (pg_sub (pv 0) pe_int set_list))))
      pss_nil)
      (pss_cut (ps_if (PW.pt (pw_and (pt_cmpR op_eq (pv 4) pe_int (nomark _)) (pw_and1 (pt_cmpR op_gt (pe_callB (clLen (K := K) rfl) rfl T.b_len PySem.boot_len (pa_cons (pv 0) pa_nil)) pe_int (nomark _)))))
      (pss_cons (ps_set (i := 6) sc.nd rfl (Or.inl rfl) (pv 2))
      (pss_cut (ps_if (pt_cmpR op_eq (pe_callB (clLen (K := K) rfl) rfl T.b_len PySem.boot_len (pa_cons (pv 0) pa_nil)) pe_int (nomark _))
      (pss_one (ps_set (i := 6) sc.nd rfl (Or.inl rfl) pe_int))
      pss_nil)
      (pss_one (ps_asg (pe_callTy call_str_int rfl T.b_str PyProof.Rows.boot_str (pa_cons (pe_op op_add (pv 6) (pe_op op_mul (pe_op op_mod (pe_op op_fdiv (pv 3) pe_int) pe_int) (pe_op op_fdiv (pv 3) pe_int))) pa_nil)) (pg_sub (pv 0) (pe_un un_neg pe_int) set_list)))))
      pss_nil)
      (pss_one (ps_if (PW.pt (pw_and (pt_cmpR op_eq (pv 4) pe_int (nomark _)) (pw_and1 (pt_cmpR op_eq (pe_callB (clLen (K := K) rfl) rfl T.b_len PySem.boot_len (pa_cons (pv 0) pa_nil)) pe_int (nomark _)))))
      (pss_one (ps_expr (pe_bm PySem.F.plainAttrs_list PySem.F.slot_list_append PySem.F.type_list_append mt_append (pv 0) (pa_cons pe_str pa_nil))))
      pss_nil)))))))), ?_⟩
  have a1 := ha.1
  have a3 := ha.2
  have d1 := hd.1
  have d3 := hd.2
  have tx := wok_tx ok a3 d3
  obtain ⟨ks, hks, hl, hin⟩ := id ok.k
  obtain ⟨l1, l3, hnm⟩ : 1 ≤ ks.length ∧ ks.length ≤ 3 ∧ isName r.1 = true := tab_few _ hks
  have rne := wok_ne ok
  refine ⟨_, rfl, _, _, rfl, rfl, (show (0 : Int) < 5 by decide), ?_⟩
  have w0 := Int.emod_nonneg c (show (5 : Int) ≠ 0 by decide)
  have w5 := Int.emod_lt_of_pos c (show (0 : Int) < 5 by decide)
  generalize hway : c % 5 = way at w0 w5
  replace hway : (fun i j : Int => V.int (i % j)) c 5 = V.int way := by rw [← hway]
  rw [hway]
  clear hway
  have xb : 0 ≤ c / 5 % 2 * (c / 10) ∧ c / 5 % 2 * (c / 10) ≤ 6552 := by
    have h2 : 0 ≤ c / 5 % 2 ∧ c / 5 % 2 ≤ 1 := by omega
    have h10 : 0 ≤ c / 10 ∧ c / 10 ≤ 6552 := by omega
    refine ⟨Int.mul_nonneg h2.1 h10.1, ?_⟩
    have : c / 5 % 2 * (c / 10) ≤ 1 * 6552 := Int.mul_le_mul h2.2 h10.2 h10.1 (by decide)
    omega
  refine ⟨Md wa H a d c way fun r' => (way < 1 → NW a d r') ∧ (1 ≤ way → r' = r), ?_, ?_⟩
  · refine ⟨_, rfl, rfl, _, rfl, ?_⟩
    rw [de]
    refine ite2 (fun cc => ?_) (fun cc => ?_)
    rotate_left
    · have c' : ¬ way = 0 := fun z => cc (decide_eq_true z)
      exact ⟨r, _, _, rfl, fun _ _ _ e => e, hwa, fun z => by omega, fun _ => rfl⟩
    have c' := of_decide_eq_true cc
    refine ⟨(by show 8 ≤ sizeLine; decide), fun wp hwp => ?_⟩
    have s1 := same_upd hwp (.lst (bad8.map V.str))
    have k1 : upd H wp (.lst (bad8.map V.str)) wp = some (.lst (bad8.map V.str)) := upd_same
    generalize upd H wp (.lst (bad8.map V.str)) = H1 at s1 k1 ⊢
    obtain ⟨word, hw, hm⟩ : ∃ word : Str, atI (bad8.map V.str) (c / 5 % 8) = some (.str word) ∧ word ∈ bad8 := by
      have j0 := Int.emod_nonneg (c / 5) (show (8 : Int) ≠ 0 by decide)
      have j8 := Int.emod_lt_of_pos (c / 5) (show (0 : Int) < 8 by decide)
      obtain ⟨n, hn⟩ := Int.eq_ofNat_of_zero_le j0
      rw [hn] at j8 ⊢
      have nl : n < bad8.length := by show n < 8; omega
      exact ⟨bad8[n], atI_nat (j := n) (by rw [List.getElem?_map, List.getElem?_eq_getElem nl]; rfl), List.getElem_mem nl⟩
    obtain ⟨bn, bt⟩ := bad_names word hm
    refine ⟨_, rfl, _, _, rfl, rfl, ⟨by decide, by decide⟩, _, _, rfl, rfl, (show (0 : Int) < 8 by decide), wp, _, _, .str word, rfl, rfl, SqL.of k1, hw, ?_⟩
    refine ⟨_, rfl, wa, _, 0, 0, rfl, rfl, s1 _ _ hwa, (by unfold ixN; rw [if_pos (by decide), if_pos (by rw [its_len]; omega)]; rfl), ?_⟩
    refine ⟨(word, r.2), _, _, rfl, stay_put (stay_same (fun _ _ _ e => e) s1), by rw [upd_same, its_set0], fun _ => ⟨⟨bn, tx.ns, tx.l⟩, fun z => ?_⟩, fun z => by omega⟩
    obtain ⟨ks', h', _⟩ := z.k
    exact bt _ h' rfl
  rintro σ' H1 ⟨r1, y5, y6, rfl, st1, k1, A1, B1⟩
  refine ⟨Md wa H a d c way fun r' => (way < 2 → NW a d r') ∧ (2 ≤ way → r' = r), ?_, ?_⟩
  · refine ⟨_, rfl, rfl, _, rfl, ?_⟩
    rw [de]
    refine ite2 (fun cc => ?_) (fun cc => ?_)
    rotate_left
    · have c' : ¬ way = 1 := fun z => cc (decide_eq_true z)
      exact ⟨r1, _, _, rfl, st1, k1, fun z => A1 (by omega), fun z => B1 (by omega)⟩
    have c' := of_decide_eq_true cc
    have e := B1 (by omega)
    subst e
    refine ⟨_, rfl, .inl ⟨rfl, _, SqL.of k1⟩, wa, _, _, rfl, rfl, k1, List.getElem?_eq_getElem (by rw [its_len]; omega), ?_⟩
    rw [its_pop rne]
    refine ⟨_, _, _, rfl, stay_put st1, upd_same, fun _ => nw_len hks hnm (fun x hx => tx.ns x (List.dropLast_subset _ hx)) ?_ ?_, fun z => by omega⟩
    · rw [List.length_dropLast]; omega
    · rw [List.length_dropLast]; omega
  rintro σ' H2 ⟨r2, y5, y6, rfl, st2, k2, A2, B2⟩
  clear A1 B1 st1 k1
  refine ⟨Md wa H a d c way fun r' => (way < 3 → NW a d r') ∧ (3 ≤ way → r' = r), ?_, ?_⟩
  · refine ⟨_, rfl, rfl, _, rfl, ?_⟩
    rw [de]
    refine ite2 (fun cc => ?_) (fun cc => ?_)
    rotate_left
    · have c' : ¬ way = 2 := fun z => cc (decide_eq_true z)
      exact ⟨r2, _, _, rfl, st2, k2, fun z => A2 (by omega), fun z => B2 (by omega)⟩
    have c' := of_decide_eq_true cc
    have e := B2 (by omega)
    subst e
    have zb : 0 ≤ c / 5 % 2 ∧ c / 5 % 2 < 2 := by omega
    refine ⟨_, rfl, .inl ⟨rfl, _, SqL.of k2⟩, _, rfl, _, _, rfl, rfl, ⟨by decide, by decide⟩, _, _, rfl, rfl, (show (0 : Int) < 2 by decide), _, rfl, log_s zb.1 (by omega), wa, _, _, rfl, rfl, k2, smlt (m := 1000) (by rw [its_len]; omega), ?_⟩
    refine ⟨(r2.1, r2.2 ++ [c / 5 % 2]), _, _, rfl, stay_put st2, by rw [upd_same, ← its_app]; rfl, fun _ => nw_len hks hnm (fun x hx => ?_) ?_ ?_, fun z => by omega⟩
    · rcases List.mem_append.mp hx with h | h
      · exact tx.ns x h
      · rw [List.mem_singleton.mp h]; omega
    · rw [List.length_append, List.length_singleton]; omega
    · rw [List.length_append, List.length_singleton]; omega
  rintro σ' H3 ⟨r3, y5, y6, rfl, st3, k3, A3, B3⟩
  clear A2 B2 st2 k2
  refine ⟨Md wa H a d c way fun r' => (way < 4 → NW a d r') ∧ (4 ≤ way → r' = r), ?_, ?_⟩
  · refine ⟨_, rfl, rfl, _, rfl, ?_⟩
    rw [de]
    refine ite2 (fun cc => ?_) (fun cc => ?_)
    rotate_left
    · have c' : ¬ way = 3 := fun z => cc (decide_eq_true z)
      exact ⟨r3, _, _, rfl, st3, k3, fun z => A3 (by omega), fun z => B3 (by omega)⟩
    have c' := of_decide_eq_true cc
    have e := B3 (by omega)
    subst e
    refine fun bp hbp => ?_
    refine ⟨_, rfl, _, rfl, _, rfl, _, rfl, _, rfl, _, rfl, upd_same, kv6 a, rfl, (by show 6 ≤ 15; decide), ?_⟩
    have eu : upd (upd H3 bp (.dK [])) bp (.dK (mergeK [] (kv6 a))) = upd H3 bp (.dK (kv6 a)) := by
      rw [show mergeK [] (kv6 a) = kv6 a from rfl]
      funext b
      by_cases e : b = bp
      · subst e; rw [upd_same, upd_same]
      · rw [upd_ne e, upd_ne e, upd_ne e]
    rw [eu]
    have s4 := same_upd hbp (.dK (kv6 a))
    have hb4 : upd H3 bp (.dK (kv6 a)) bp = some (.dK (kv6 a)) := upd_same
    generalize upd H3 bp (.dK (kv6 a)) = H4 at s4 hb4 ⊢
    have k4 := s4 _ _ k3
    obtain ⟨k0, hk0, hv0⟩ := kv_first hks a d
    have kk := tab_kinds _ hks k0 (List.mem_of_getElem? hk0)
    have bb : 1 ≤ bnd a d k0 ∧ bnd a d k0 ≤ 7 := by
      unfold bnd
      split
      · omega
      · split <;> omega
    have g : DGet H4 bp (.str r3.1) (valV (kv6 a) (.inr r3.1)) := .inl ⟨_, .inr r3.1, .inl hb4, rfl, rfl⟩
    refine ⟨_, rfl, bp, rfl, .inl ⟨_, .inl hb4⟩, _, rfl, wa, _, _, _, rfl, rfl, SqL.of k4, atI_nat (j := 0) rfl, _, rfl, _, g, ?_⟩
    rw [hv0]
    refine ⟨_, rfl, _, _, rfl, rfl, ⟨by decide, by decide⟩, _, _, rfl, rfl, (show (0 : Int) < 2 by decide), _, rfl, _, _, rfl, rfl, ⟨by decide, by decide⟩, _, _, rfl, rfl, .inl ⟨by omega, by omega⟩, _, _, rfl, rfl, _, rfl, log_s (show 0 ≤ bnd a d k0 + c / 5 % 2 * (c / 10) by omega) (by omega), ?_⟩
    refine ⟨_, rfl, wa, _, 1, 1, rfl, rfl, k4, (by unfold ixN; rw [if_pos (by decide), if_pos (by rw [its_len]; omega)]; rfl), ?_⟩
    refine ⟨(r3.1, r3.2.set 0 (bnd a d k0 + c / 5 % 2 * (c / 10))), _, _, rfl, stay_put (stay_same st3 s4), by rw [upd_same, ← its_set]; rfl, fun _ => nw_at (i := 0) (x := bnd a d k0 + c / 5 % 2 * (c / 10)) hks hnm (set_rng tx.ns (by omega)) (by rw [List.length_set]; exact tx.l) (by rw [List.getElem?_set_self (by omega)]) hk0 (by omega), fun z => by omega⟩
  rintro σ' H4 ⟨r4, y5, y6, rfl, st4, k4, A4, B4⟩
  clear A3 B3 st3 k3
  refine ⟨Md wa H a d c way fun r' => (way < 4 → NW a d r') ∧ (4 ≤ way → r'.2.length = 1 → r' = r) ∧ (4 ≤ way → r'.2.length ≠ 1 → NW a d r'), ?_, ?_⟩
  · refine ⟨_, rfl, rfl, _, rfl, ?_⟩
    rw [de]
    refine ite2 (fun cc => ?_) (fun cc => ?_)
    rotate_left
    · have c' : ¬ way = 4 := fun z => cc (decide_eq_true z)
      exact iteF ⟨r4, _, _, rfl, st4, k4, A4, fun z => by omega, fun z => by omega⟩
    have c' := of_decide_eq_true cc
    have e := B4 (by omega)
    subst e
    refine ⟨_, rfl, wa, _, rfl, .inl (SqL.of k4), _, _, rfl, rfl, _, rfl, ?_⟩
    rw [its_len]
    refine ite2 (fun cc => ?_) (fun cc => ?_)
    rotate_left
    · have c2 : ¬ (2 : Int) < ((r4.2.length + 1 : Nat) : Int) := fun z => cc (decide_eq_true z)
      exact ⟨r4, _, _, rfl, st4, k4, A4, fun _ _ => rfl, fun _ z => by omega⟩
    have c2 : (2 : Int) < ((r4.2.length + 1 : Nat) : Int) := of_decide_eq_true cc
    refine ⟨_, rfl, ?_⟩
    refine ⟨fun σ' H1 => H1 = H4 ∧ σ' = [some (.ref wa), some (.int a), some (.int d), some (.int c), some (.int way), y5, some (.int (if r4.2.length = 3 then 7 else d))], ?_, ?_⟩
    · refine ⟨_, rfl, wa, _, rfl, .inl (SqL.of k4), rfl, _, rfl, ?_⟩
      rw [its_len, de]
      refine ite2 (fun cc => ?_) (fun cc => ?_)
      · have c3 := of_decide_eq_true cc
        rw [if_pos (by omega)]
        exact ⟨rfl, rfl⟩
      · have c3 : ¬ ((r4.2.length + 1 : Nat) : Int) = 4 := fun z => cc (decide_eq_true z)
        rw [if_neg (by omega)]
        exact ⟨rfl, rfl⟩
    rintro σ' H5 ⟨rfl, rfl⟩
    obtain ⟨mo, hmo⟩ : ∃ mo, mo = (if r4.2.length = 3 then 7 else d) := ⟨_, rfl⟩
    rw [← hmo]
    have mb : 1 ≤ mo ∧ mo ≤ 7 := by
      rw [hmo]; split <;> omega
    obtain ⟨lk2, lk3⟩ := last_kind hks
    obtain ⟨kl, hkl, hbl⟩ : ∃ kl, ks[r4.2.length - 1]? = some kl ∧ bnd a d kl = mo := by
      by_cases e3 : r4.2.length = 3
      · refine ⟨"ticks", by rw [e3]; exact lk3 (by omega), ?_⟩
        rw [hmo, if_pos e3]; unfold bnd; rw [if_neg (by decide +kernel), if_neg (by decide +kernel)]
      · have e2 : r4.2.length = 2 := by omega
        refine ⟨"deed", by rw [e2]; exact lk2 (by omega), ?_⟩
        rw [hmo, if_neg e3]; unfold bnd; rw [if_neg (by decide +kernel), if_pos rfl]
    refine ⟨_, rfl, _, rfl, _, _, rfl, rfl, ⟨by decide, by decide⟩, _, _, rfl, rfl, (show (0 : Int) < 2 by decide), _, rfl, _, _, rfl, rfl, ⟨by decide, by decide⟩, _, _, rfl, rfl, .inl ⟨by omega, by omega⟩, _, _, rfl, rfl, _, rfl, log_s (show 0 ≤ mo + c / 5 % 2 * (c / 10) by omega) (by omega), ?_⟩
    refine ⟨_, rfl, _, rfl, wa, _, -1, r4.2.length - 1 + 1, rfl, rfl, k4, (by unfold ixN; rw [its_len, if_neg (by decide), if_pos (by omega)]; congr 1; omega), ?_⟩
    refine ⟨(r4.1, r4.2.set (r4.2.length - 1) (mo + c / 5 % 2 * (c / 10))), _, _, rfl, stay_put st4, by rw [upd_same, ← its_set]; rfl, fun z => by omega, fun _ z => ?_, fun _ _ => nw_at (i := r4.2.length - 1) (x := mo + c / 5 % 2 * (c / 10)) hks hnm (set_rng tx.ns (by omega)) (by rw [List.length_set]; exact tx.l) (by rw [List.getElem?_set_self (by omega)]) hkl (by omega)⟩
    exfalso
    have : (r4.2.set (r4.2.length - 1) (mo + c / 5 % 2 * (c / 10))).length = 1 := z
    rw [List.length_set] at this
    omega
  rintro σ' H5 ⟨r5, y5, y6, rfl, st5, k5, A5, B5, C5⟩
  clear A4 B4 st4 k4
  refine ⟨_, rfl, rfl, _, rfl, ?_⟩
  rw [de]
  refine ite2 (fun cc => ?_) (fun cc => ?_)
  rotate_left
  · have c' : ¬ way = 4 := fun z => cc (decide_eq_true z)
    exact iteF (q r5 _ st5 k5 (A5 (by omega)))
  have c' := of_decide_eq_true cc
  refine ⟨_, rfl, wa, _, rfl, .inl (SqL.of k5), rfl, _, rfl, ?_⟩
  rw [its_len, de]
  refine ite2 (fun cc => ?_) (fun cc => ?_)
  rotate_left
  · have c2 : ¬ ((r5.2.length + 1 : Nat) : Int) = 2 := fun z => cc (decide_eq_true z)
    exact q r5 _ st5 k5 (C5 (by omega) (by omega))
  have c2 := of_decide_eq_true cc
  have e := B5 (by omega) (by omega)
  subst e
  refine ⟨_, rfl, .inl ⟨rfl, _, SqL.of k5⟩, wa, _, _, rfl, rfl, k5, smlt (m := 1000) (by rw [its_len]; omega), ?_⟩
  refine q (r5.1, r5.2 ++ [0]) _ (stay_put st5) (by rw [upd_same, ← its_app]; rfl) (nw_len hks hnm (fun x hx => ?_) ?_ ?_)
  · rcases List.mem_append.mp hx with h | h
    · exact tx.ns x h
    · rw [List.mem_singleton.mp h]; decide
  · rw [List.length_append, List.length_singleton]; omega
  · rw [List.length_append, List.length_singleton]; omega
def BadV (K : PySem.W.Frag) (H : Hp) (v : V) : Prop := (∃ S, kindV H v S ∧ PySem.W.kitOne K (.type S) (.type "str") = some false) ∨ ∃ s, v = .str s ∧ s.length ≤ 5000 ∧ ∀ a d ws, ¬ Form s a d ws
structure HW (H : Hp) (g : Addr) (as : List Addr) (W : List (List Str)) : Prop where
  hg : H g = some (.lst (as.map V.ref))
  nd : as.Nodup
  ng : g ∉ as
  len : as.length = W.length
  cell : ∀ (i : Nat) x w, as[i]? = some x → W[i]? = some w → H x = some (.lst (w.map V.str))
theorem HW.up {H H' : Hp} {g : Addr} {as : List Addr} {W : List (List Str)} (h : HW H g as W) (s : Same H H') : HW H' g as W := ⟨s _ _ h.hg, h.nd, h.ng, h.len, fun i x w h1 h2 => s _ _ (h.cell i x w h1 h2)⟩
theorem HW.set {H H' : Hp} {g : Addr} {as : List Addr} {W : List (List Str)} (h : HW H g as W) {n : Nat} {x : Addr} {w : List Str} (hx : as[n]? = some x) (hs : ∀ b o, b ≠ x → H b = some o → H' b = some o) (hw : H' x = some (.lst (w.map V.str))) : HW H' g as (W.set n w) := by
  refine ⟨hs _ _ (fun e => h.ng (e ▸ List.mem_of_getElem? hx)) h.hg, h.nd, h.ng, by rw [List.length_set]; exact h.len, fun i y w' hy hw' => ?_⟩
  have nl := (List.getElem?_eq_some_iff.mp hx).1
  by_cases e : i = n
  · subst e
    rw [hx] at hy
    injection hy with hy
    subst hy
    rw [List.getElem?_set_self (by rw [← h.len]; exact nl)] at hw'
    injection hw' with hw'
    subst hw'
    exact hw
  · rw [List.getElem?_set_ne (Ne.symm e)] at hw'
    refine hs _ _ (fun ey => e ?_) (h.cell i y w' hy hw')
    subst ey
    exact (List.getElem?_inj (List.getElem?_eq_some_iff.mp hy).1 h.nd).mp (hy.trans hx.symm)
theorem pr_of {α β : Type} {F : α → β → Prop} : ∀ {xs : List α} {ys : List β}, xs.length = ys.length → (∀ (i : Nat) x y, xs[i]? = some x → ys[i]? = some y → F x y) → Paired F xs ys
  | [], [], _, _ => .nil
  | [], _ :: _, h, _ => by simp at h
  | _ :: _, [], h, _ => by simp at h
  | x :: xs, y :: ys, h, f => .cons (f 0 x y rfl rfl) (pr_of (by simpa using h) fun i a b ha hb => f (i + 1) a b ha hb)
theorem HW.rel {H : Hp} {g : Addr} {as : List Addr} {W : List (List Str)} (h : HW H g as W) : rWs H W (.ref g) := by
  refine ⟨g, _, rfl, h.hg, pr_of (by rw [List.length_map, h.len]) fun i w v hw hv => ?_⟩
  rw [List.getElem?_map] at hv
  cases e : as[i]? with
  | none => rw [e] at hv; cases hv
  | some x =>
    rw [e] at hv
    injection hv with hv
    rw [← hv]
    exact strs_rel (h.cell i x w e hw)
abbrev bad13 : List Str := ["", "1", "0 1", "1 4", "01 1", "1  1", "1 1 ", " 1 1", "1 1 1", "a 1", "+1 1", "3 -1", "1,1"]
abbrev bad1 : List Str := ["", "A", repS "answers" 2, "not1", "no-t", "often:", "hope,", "Calm"]
abbrev bad2 : List Str := ["", "01", "-0", "-1", "1_0", "1234567890", "x", "1:", "0.", "\n0"]
abbrev bad4 : List Str := ["", ";", " : ", ": ", "::", ":;"]
theorem bad13_ok : ∀ x ∈ bad13, runA .s0 (x.cps.toList ++ [58]) = .dead ∧ x.length ≤ 20 := by
  have h : bad13.all (fun x => decide (runA .s0 (x.cps.toList ++ [58]) = .dead) && decide (x.length ≤ 20)) = true := by decide +kernel
  intro x hx
  have := List.all_eq_true.mp h x hx
  rw [Bool.and_eq_true] at this
  exact ⟨of_decide_eq_true this.1, of_decide_eq_true this.2⟩
theorem bad1_ok : ∀ x ∈ bad1, runA .w0 (x.cps.toList ++ [32]) = .dead ∧ x.length ≤ 20 := by
  have h : bad1.all (fun x => decide (runA .w0 (x.cps.toList ++ [32]) = .dead) && decide (x.length ≤ 20)) = true := by decide +kernel
  intro x hx
  have := List.all_eq_true.mp h x hx
  rw [Bool.and_eq_true] at this
  exact ⟨of_decide_eq_true this.1, of_decide_eq_true this.2⟩
theorem bad2_ok : ∀ x ∈ bad2, (runA .bl x.cps.toList = .dead ∨ runA .bl x.cps.toList = .bl) ∧ x.length ≤ 20 := by
  have h : bad2.all (fun x => decide (runA .bl x.cps.toList = .dead ∨ runA .bl x.cps.toList = .bl) && decide (x.length ≤ 20)) = true := by decide +kernel
  intro x hx
  have := List.all_eq_true.mp h x hx
  rw [Bool.and_eq_true] at this
  exact ⟨of_decide_eq_true this.1, of_decide_eq_true this.2⟩
theorem bad4_ok : ∀ x ∈ bad4, runA .s3 (x.cps.toList ++ [32]) = .dead ∧ x.length ≤ 20 ∧ ((":" : Str) == x) = false := by
  have h : bad4.all (fun x => decide (runA .s3 (x.cps.toList ++ [32]) = .dead) && (decide (x.length ≤ 20) && !((":" : Str) == x))) = true := by decide +kernel
  intro x hx
  have := List.all_eq_true.mp h x hx
  rw [Bool.and_eq_true, Bool.and_eq_true] at this
  exact ⟨of_decide_eq_true this.1, of_decide_eq_true this.2.1, by simpa using this.2.2⟩
theorem pick {l : List Str} {n : Int} (h0 : 0 ≤ n) (h1 : n < l.length) : ∃ x, atI (l.map V.str) n = some (.str x) ∧ x ∈ l ∧ l[n.toNat]? = some x := by
  obtain ⟨m, rfl⟩ := Int.eq_ofNat_of_zero_le h0
  have nl : m < l.length := by omega
  exact ⟨l[m], atI_nat (j := m) (by rw [List.getElem?_map, List.getElem?_eq_getElem nl]; rfl), List.getElem_mem nl, List.getElem?_eq_getElem nl⟩
def Sd (g wa : Addr) (as : List Addr) (W : List (List Str)) (n : Nat) (kind cell : Int) (A : Str → List Str → Prop) : St → Hp → Prop := fun σ' H1 => ∃ (hd : Str) (p : List Str) (y5 y6 : Option V), σ' = [some (.str hd), some (.ref g), some (.int kind), some (.int cell), some (.ref wa), y5, y6] ∧ HW H1 g as (W.set n p) ∧ A hd p
theorem first_bad {bw : Str} (h : runA .w0 (bw.cps.toList ++ [32]) = .dead) {r : WR} (hr : r.2 ≠ []) : ∀ q, ahd q → runA q (wL (cpL (bw :: r.2.map intS))) = .dead ∨ runA q (wL (cpL (bw :: r.2.map intS))) = .bl := fun q hq => by
  obtain ⟨z, zs, ez⟩ := List.exists_cons_of_ne_nil hr
  refine .inl ?_
  rw [ez]
  show runA q (wL (bw.cps.toList :: (intS z).cps.toList :: cpL (zs.map intS))) = _
  rw [wL_cons, run_cons, ahd_32 hq, wL_cons, show bw.cps.toList ++ 32 :: ((intS z).cps.toList ++ wL (cpL (zs.map intS))) = (bw.cps.toList ++ [32]) ++ ((intS z).cps.toList ++ wL (cpL (zs.map intS))) by rw [List.append_assoc]; rfl, run_app, h, run_dead]
theorem last_bad {bw : Str} (h : runA .bl bw.cps.toList = .dead ∨ runA .bl bw.cps.toList = .bl) {r : WR} (t : WTx r) : ∀ q, ahd q → runA q (wL (cpL ((itS (r.1, r.2.dropLast)) ++ [bw]))) = .dead ∨ runA q (wL (cpL ((itS (r.1, r.2.dropLast)) ++ [bw]))) = .bl := fun q hq => by
  have t' : WTx (r.1, r.2.dropLast) := ⟨t.nm, fun x hx => t.ns x (List.dropLast_subset _ hx), by rw [List.length_dropLast]; have := t.l; omega⟩
  have e : cpL ((itS (r.1, r.2.dropLast)) ++ [bw]) = cpL (itS (r.1, r.2.dropLast)) ++ [bw.cps.toList] := by unfold cpL; rw [List.map_append]; rfl
  rw [e, wL_app, run_app]
  show runA _ (32 :: (bw.cps.toList ++ [])) = _ ∨ runA _ (32 :: (bw.cps.toList ++ [])) = _
  rw [List.append_nil, run_cons, mid_32 (run_wish hq (wish_l t'))]
  exact h
theorem its_last {r : WR} (h : r.2 ≠ []) (bw : Str) : ((itS r).map V.str).set r.2.length (.str bw) = ((itS (r.1, r.2.dropLast)) ++ [bw]).map V.str := by
  obtain ⟨z, zs, ez⟩ : ∃ zs z, r.2 = zs ++ [z] := ⟨r.2.dropLast, r.2.getLast h, (List.dropLast_concat_getLast h).symm⟩
  unfold itS
  rw [ez, List.dropLast_concat]
  show (V.str r.1 :: ((z ++ [zs]).map intS).map V.str).set (z ++ [zs]).length (.str bw) = _
  rw [List.length_append, List.length_singleton, List.set_cons_succ, List.map_append, List.map_append]
  show V.str r.1 :: ((z.map intS).map V.str ++ [V.str (intS zs)]).set z.length (.str bw) = _
  have : z.length = ((z.map intS).map V.str).length := by simp
  rw [this, List.set_append_right _ _ (Nat.le_refl _), Nat.sub_self]
  rw [List.map_append, List.map_cons]; rfl
theorem its_few5 {r : WR} (h : WTx r) : (itS r).length ≤ 5 ∧ ∀ w ∈ itS r, w.length ≤ 20 := by
  refine ⟨by unfold itS; rw [List.length_cons, List.length_map]; have := h.l; omega, fun w hw => ?_⟩
  have := (its_few h w hw).1; omega
theorem body_32 {ws : List WR} (h : ws ≠ []) : ∃ t, (bodyT ws).cps.toList = 32 :: t := by
  obtain ⟨r, rs, rfl⟩ := List.exists_cons_of_ne_nil h
  unfold bodyT
  rw [flat_join, List.map_cons, List.map_cons, wT_list]
  obtain ⟨t, et, _⟩ := flat_head (32 :: flatL [32] ((itS r).map fun p => p.cps.toList)) ((rs.map wT).map fun p => p.cps.toList)
  exact ⟨_, et⟩
theorem line_l (a d : Int) (ws : List WR) : (lineT a d ws).cps.toList = (headC a d).cps.toList ++ 58 :: (bodyT ws).cps.toList := by
  unfold lineT
  rw [app_list, app_list, List.append_assoc]; rfl
def spSp (K : PySem.W.Frag) : Sp := fun vs H Q _ => ∃ (g : Addr) (as : List Addr) (a d kind cell : Int) (ws : List WR), vs = [.str (headC a d), .ref g, .int kind, .int cell] ∧ CntOk a ∧ CntOk d ∧ HW H g as (ws.map itS) ∧ ws ≠ [] ∧ ws.length ≤ 6 ∧ (∀ r ∈ ws, WOk a d r) ∧ 0 ≤ kind ∧ kind < 6 ∧ 0 ≤ cell ∧ cell < 65521 ∧ ∀ v H', BadV K H' v → Q v H'
theorem qa_lits {X : Cx} {es : List Expr} {zs : List Str} (h : Lits es zs) : QA X es (tLits zs) := ⟨pa_lits h⟩
theorem sp_l1 : Lits (getL (stN s_law_spoiled 1)) bad13 := Lits.cons (Lits.cons (Lits.cons (Lits.cons (Lits.cons (Lits.cons (Lits.cons (Lits.cons (Lits.cons (Lits.cons (Lits.cons (Lits.cons (Lits.cons Lits.nil))))))))))))
theorem sp_l2 {X : Cx} : QA X (getL (stN s_law_spoiled 2)) (tLits bad1) := qa_weak (qa_cons pe_str (qa_cons pe_str (qa_cons (pe_op op_mul_str pe_str pe_int) (qa_cons pe_str (qa_cons pe_str (qa_cons pe_str (qa_cons pe_str (qa_cons pe_str qa_nil)))))))) fun σ H Q h => ⟨_, _, rfl, rfl, (by decide), (by decide), (by decide +kernel), (by decide +kernel), (Nat.le_trans (by decide +kernel : (repS "answers" 2).length ≤ 1000) (small (m := 1000) (Nat.le_refl _))), h⟩
theorem sp_l3 : Lits (getL (stN s_law_spoiled 3)) bad2 := Lits.cons (Lits.cons (Lits.cons (Lits.cons (Lits.cons (Lits.cons (Lits.cons (Lits.cons (Lits.cons (Lits.cons Lits.nil)))))))))
theorem sp_body : ∃ L1 L2 L3 : List Expr, defBody s_law_spoiled = stN s_law_spoiled 0 :: putL (stN s_law_spoiled 1) L1 :: putL (stN s_law_spoiled 2) L2 :: putL (stN s_law_spoiled 3) L3 :: (defBody s_law_spoiled).drop 4 ∧ (∀ X, QA X L1 (tLits bad13)) ∧ (∀ X, QA X L2 (tLits bad1)) ∧ ∀ X, QA X L3 (tLits bad2) :=
  ⟨_, _, _, rfl, fun _ => qa_lits sp_l1, fun _ => sp_l2, fun _ => qa_lits sp_l3⟩
theorem ok_sp (F : DefAt K mg "_law_spoiled" s_law_spoiled ["_law_head", "_law_wishes", "_law_kind", "_law_cell"]) (T : Txt mg) (D_law_text : Dn P w K mg base "_law_text" 1 ["_law_head", "_law_wishes"] (spText K)) : Dn P w K mg base "_law_spoiled" 2 ["_law_head", "_law_wishes", "_law_kind", "_law_cell"] (spSp K) := by
  have sc := sc_law_spoiled
  refine F.ok sc (fun vs H Q E h => ?_) (fun f cdv A outer s H vs Q E hr h => ?_)
  · obtain ⟨_, _, _, _, _, _, _, rfl, _⟩ := h; rfl
  obtain ⟨g, as, a, d, kind, cell, ws, rfl, ha, hd, hW, hne, h6, hok, k0, k6, c0, c6, q⟩ := h
  have htx : ∀ r ∈ ws, WTx r := fun r hr => wok_tx (hok r hr) ha.2 hd.2
  have al : as.length = ws.length := by rw [hW.len, List.length_map]
  have wpos : 0 < ws.length := List.length_pos_iff.mpr hne
  obtain ⟨L1, L2, L3, hb, hL_118, hL_121, hL_123⟩ := sp_body
  rw [hb]
  refine ⟨_, (pss_cons (ps_set (i := 4) sc.nd rfl (Or.inl rfl) (pe_ix (ixL (K := K) rfl) (pv 1) (pe_op op_mod (pv 3) (pe_callB (clLen (K := K) rfl) rfl T.b_len PySem.boot_len (pa_cons (pv 1) pa_nil))) (fun _ _ => rfl)))
      (pss_cut (ps_if (pt_cmpR op_eq (pv 2) pe_int (nomark _))
      (pss_cons (ps_set (i := 5) sc.nd rfl (Or.inl rfl) (pe_lstQ (hL_118 _)))
      (pss_one (ps_set (i := 0) sc.nd rfl (Or.inl rfl) (pe_ix (ixL (K := K) rfl) (pv 5) (pe_op op_mod (pe_op op_fdiv (pv 3) pe_int) pe_int) (fun _ _ => rfl)))))
      pss_nil)
      (pss_cut (ps_if (pt_cmpR op_eq (pv 2) pe_int (nomark _))
      (pss_one (ps_asg (pe_ix (ixL (K := K) rfl) (pe_lstQ (hL_121 _)) (pe_op op_mod (pe_op op_fdiv (pv 3) pe_int) pe_int) (fun _ _ => rfl)) (pg_sub (pv 4) pe_int set_list)))
      pss_nil)
      (pss_cut (ps_if (pt_cmpR op_eq (pv 2) pe_int (nomark _))
      (pss_one (ps_asg (pe_ix (ixL (K := K) rfl) (pe_lstQ (hL_123 _)) (pe_op op_mod (pe_op op_fdiv (pv 3) pe_int) pe_int) (fun _ _ => rfl)) (pg_sub (pv 4) (pe_un un_neg pe_int) set_list)))
      pss_nil)
      (pss_cons (ps_set (i := 6) sc.nd rfl (Or.inl rfl) (pe_dn D_law_text hr (pa_cons (pv 0) (pa_cons (pv 1) pa_nil))))
      (pss_cons (ps_if (pt_cmpR op_eq (pv 2) pe_int (nomark _))
      (pss_one (ps_ret (pe_ix (ixL (K := K) rfl) (pe_lstQ (qa_cons (pe_op op_add_str (pv 6) pe_str) (qa_cons (pe_op op_add_str (pv 6) pe_str) (qa_cons (pe_op op_add_str (pv 6) pe_str) (qa_cons (pe_op op_add_str (pv 6) pe_str) (qa_cons (pe_op op_add_str pe_str (pv 6)) (qa_cons (pe_op op_add_str (pv 6) pe_str) qa_nil))))))) (pe_op op_mod (pe_op op_fdiv (pv 3) pe_int) pe_int) (fun _ _ => rfl))))
      pss_nil)
      (pss_cons (ps_ifRep (i := 2) (o := 6) rfl (Or.inl rfl) rfl (Or.inl rfl) (pcs_lits (Lits.cons (Lits.cons (Lits.cons (Lits.cons (Lits.cons (Lits.cons Lits.nil))))))) (pe_op op_mod (pe_op op_fdiv (pv 3) pe_int) pe_int) (fun _ _ => rfl) (by decide))
      (pss_cons (ps_if (pt_cmpR op_eq (pv 2) pe_int (nomark _))
      (pss_one (ps_ret (pe_ix (ixL (K := K) rfl) (pe_lstQ (qa_cons pe_non (qa_cons pe_int (qa_cons pe_bl (qa_cons (pe_tup (pa_cons (pv 6) pa_nil)) (qa_cons (pe_lst (pa_cons (pv 6) pa_nil)) qa_nil)))))) (pe_op op_mod (pe_op op_fdiv (pv 3) pe_int) pe_int) (fun _ _ => rfl))))
      pss_nil)
      (pss_one (ps_ret (pv 6))))))))))), ?_⟩
  have m0 := Int.emod_nonneg cell (show ((as.map V.ref).length : Int) ≠ 0 by rw [List.length_map]; omega)
  have m1 := Int.emod_lt_of_pos cell (show (0 : Int) < ((as.map V.ref).length : Int) by rw [List.length_map]; omega)
  obtain ⟨n, hn⟩ := Int.eq_ofNat_of_zero_le m0
  rw [hn, List.length_map] at m1
  have nl : n < as.length := by omega
  have nw : n < ws.length := by omega
  obtain ⟨wa, hwa⟩ : ∃ wa, as[n]? = some wa := ⟨_, List.getElem?_eq_getElem nl⟩
  obtain ⟨r, hr0⟩ : ∃ r, ws[n]? = some r := ⟨_, List.getElem?_eq_getElem nw⟩
  have rok := hok r (List.mem_of_getElem? hr0)
  have rtx := htx r (List.mem_of_getElem? hr0)
  have rne := wok_ne rok
  refine ⟨_, rfl, _, rfl, _, rfl, g, _, rfl, .inl (SqL.of hW.hg), _, _, rfl, rfl, (by rw [List.length_map]; omega), g, _, _, .ref wa, rfl, rfl, SqL.of hW.hg, (by rw [hn]; exact atI_nat (j := n) (by rw [List.getElem?_map, hwa]; rfl)), ?_⟩
  have self : (ws.map itS).set n (itS r) = ws.map itS := by
    refine List.ext_getElem? fun i => ?_
    by_cases e : i = n
    · subst e
      rw [List.getElem?_set_self (by rw [List.length_map]; exact nw), List.getElem?_map, hr0]; rfl
    · rw [List.getElem?_set_ne (Ne.symm e)]
  have hW0 : HW H g as ((ws.map itS).set n (itS r)) := by rw [self]; exact hW
  refine ⟨Sd g wa as (ws.map itS) n kind cell fun hd' p => (kind = 0 → hd' ∈ bad13) ∧ (kind ≠ 0 → hd' = headC a d) ∧ p = itS r, ?_, ?_⟩
  · refine ⟨_, rfl, rfl, _, rfl, ?_⟩
    rw [de]
    refine ite2 (fun cc => ?_) (fun cc => ?_)
    rotate_left
    · exact ⟨_, _, _, _, rfl, hW0, fun z => absurd (decide_eq_true z) cc, fun _ => rfl, rfl⟩
    have c' := of_decide_eq_true cc
    refine ⟨(by show 13 ≤ sizeLine; decide), fun wp hwp => ?_⟩
    have s1 := same_upd hwp (.lst (bad13.map V.str))
    have k1 : upd H wp (.lst (bad13.map V.str)) wp = some (.lst (bad13.map V.str)) := upd_same
    generalize upd H wp (.lst (bad13.map V.str)) = H1 at s1 k1 ⊢
    obtain ⟨x, hx, hm, _⟩ := pick (l := bad13) (n := cell / 7 % 13) (Int.emod_nonneg _ (by decide)) (Int.emod_lt_of_pos _ (by decide))
    refine ⟨_, rfl, _, rfl, _, _, rfl, rfl, ⟨by decide, by decide⟩, _, _, rfl, rfl, (show (0 : Int) < 13 by decide), wp, _, _, .str x, rfl, rfl, SqL.of k1, hx, ?_⟩
    exact ⟨_, _, _, _, rfl, hW0.up s1, fun _ => hm, fun z => absurd c' z, rfl⟩
  rintro σ' H1 ⟨hd1, p1, y5, y6, rfl, hW1, A1, B1, rfl⟩
  refine ⟨Sd g wa as (ws.map itS) n kind cell fun hd' p => (kind = 0 → hd' ∈ bad13) ∧ (kind ≠ 0 → hd' = headC a d) ∧ (kind = 1 → ∃ bw ∈ bad1, p = bw :: r.2.map intS) ∧ (kind ≠ 1 → p = itS r), ?_, ?_⟩
  · refine ⟨_, rfl, rfl, _, rfl, ?_⟩
    rw [de]
    refine ite2 (fun cc => ?_) (fun cc => ?_)
    rotate_left
    · exact ⟨_, _, _, _, rfl, hW1, A1, B1, fun z => absurd (decide_eq_true z) cc, fun _ => rfl⟩
    have c' := of_decide_eq_true cc
    refine ⟨(by show 8 ≤ sizeLine; decide), fun wp hwp => ?_⟩
    have s1 := same_upd hwp (.lst (bad1.map V.str))
    have k1 : upd H1 wp (.lst (bad1.map V.str)) wp = some (.lst (bad1.map V.str)) := upd_same
    generalize upd H1 wp (.lst (bad1.map V.str)) = H2 at s1 k1 ⊢
    obtain ⟨x, hx, hm, _⟩ := pick (l := bad1) (n := cell / 7 % 8) (Int.emod_nonneg _ (by decide)) (Int.emod_lt_of_pos _ (by decide))
    have hW2 := hW1.up s1
    have kw := hW2.cell n wa (itS r) hwa (by rw [List.getElem?_set_self (by rw [List.length_map]; exact nw)])
    refine ⟨_, rfl, _, _, rfl, rfl, ⟨by decide, by decide⟩, _, _, rfl, rfl, (show (0 : Int) < 8 by decide), wp, _, _, .str x, rfl, rfl, SqL.of k1, hx, ?_⟩
    refine ⟨_, rfl, wa, _, 0, 0, rfl, rfl, kw, (by unfold ixN; rw [if_pos (by decide), if_pos (by rw [its_len]; omega)]; rfl), ?_⟩
    have := hW2.set (w := x :: r.2.map intS) hwa (H' := upd H2 wa (.lst (((itS r).map V.str).set 0 (.str x)))) (fun b o nb e => by rw [upd_ne nb]; exact e) (by rw [upd_same]; rfl)
    rw [List.set_set] at this
    exact ⟨_, _, _, _, rfl, this, A1, B1, fun _ => ⟨x, hm, rfl⟩, fun z => absurd c' z⟩
  clear hW1 A1 B1
  rintro σ' H2 ⟨hd2, p2, y5, y6, rfl, hW2, A2, B2, C2, D2⟩
  refine ⟨Sd g wa as (ws.map itS) n kind cell fun hd' p => (kind = 0 → hd' ∈ bad13) ∧ (kind ≠ 0 → hd' = headC a d) ∧ (kind = 1 → ∃ bw ∈ bad1, p = bw :: r.2.map intS) ∧ (kind = 2 → ∃ bw ∈ bad2, p = itS (r.1, r.2.dropLast) ++ [bw]) ∧ (kind ≠ 1 → kind ≠ 2 → p = itS r), ?_, ?_⟩
  · refine ⟨_, rfl, rfl, _, rfl, ?_⟩
    rw [de]
    refine ite2 (fun cc => ?_) (fun cc => ?_)
    rotate_left
    · exact ⟨_, _, _, _, rfl, hW2, A2, B2, C2, fun z => absurd (decide_eq_true z) cc, fun z _ => D2 z⟩
    have c' := of_decide_eq_true cc
    have e := D2 (by omega)
    subst e
    refine ⟨(by show 10 ≤ sizeLine; decide), fun wp hwp => ?_⟩
    have s1 := same_upd hwp (.lst (bad2.map V.str))
    have k1 : upd H2 wp (.lst (bad2.map V.str)) wp = some (.lst (bad2.map V.str)) := upd_same
    generalize upd H2 wp (.lst (bad2.map V.str)) = H3 at s1 k1 ⊢
    obtain ⟨x, hx, hm, _⟩ := pick (l := bad2) (n := cell / 7 % 10) (Int.emod_nonneg _ (by decide)) (Int.emod_lt_of_pos _ (by decide))
    have hW3 := hW2.up s1
    have kw := hW3.cell n wa (itS r) hwa (by rw [List.getElem?_set_self (by rw [List.length_map]; exact nw)])
    refine ⟨_, rfl, _, _, rfl, rfl, ⟨by decide, by decide⟩, _, _, rfl, rfl, (show (0 : Int) < 10 by decide), wp, _, _, .str x, rfl, rfl, SqL.of k1, hx, ?_⟩
    refine ⟨_, rfl, _, rfl, wa, _, -1, r.2.length, rfl, rfl, kw, (by unfold ixN; rw [its_len, if_neg (by decide), if_pos (by omega)]; congr 1; omega), ?_⟩
    have := hW3.set (w := itS (r.1, r.2.dropLast) ++ [x]) hwa (H' := upd H3 wa (.lst (((itS r).map V.str).set r.2.length (.str x)))) (fun b o nb e => by rw [upd_ne nb]; exact e) (by rw [upd_same, its_last rne])
    rw [List.set_set] at this
    exact ⟨_, _, _, _, rfl, this, A2, B2, fun z => by omega, fun _ => ⟨x, hm, rfl⟩, fun _ z => absurd c' z⟩
  clear hW2 A2 B2 C2 D2
  rintro σ' H3 ⟨hd3, p3, y5, y6, rfl, hW3, A3, B3, C3, D3, E3⟩
  have hdl : hd3.length ≤ 100 := by
    by_cases z : kind = 0
    · have := (bad13_ok _ (A3 z)).2; omega
    · rw [B3 z]; have := (headC_few ha hd).1; omega
  have pl : p3.length ≤ 5 ∧ ∀ w ∈ p3, w.length ≤ 20 := by
    obtain ⟨f1, f2⟩ := its_few5 rtx
    by_cases z1 : kind = 1
    · obtain ⟨bw, hb, rfl⟩ := C3 z1
      refine ⟨f1, fun w hw => ?_⟩
      rcases List.mem_cons.mp hw with rfl | hw
      · exact (bad1_ok _ hb).2
      · exact f2 w (List.mem_cons_of_mem _ hw)
    · by_cases z2 : kind = 2
      · obtain ⟨bw, hb, rfl⟩ := D3 z2
        have rl := rtx.l
        refine ⟨?_, fun w hw => ?_⟩
        · rw [List.length_append, List.length_singleton]
          show (r.1 :: r.2.dropLast.map intS).length + 1 ≤ 5
          rw [List.length_cons, List.length_map, List.length_dropLast]
          have : 0 < r.2.length := List.length_pos_iff.mpr rne
          omega
        · rcases List.mem_append.mp hw with hw | hw
          · rcases List.mem_cons.mp hw with rfl | hw
            · exact f2 r.1 List.mem_cons_self
            · obtain ⟨z, hz, rfl⟩ := List.mem_map.mp hw
              exact f2 _ (List.mem_cons_of_mem _ (List.mem_map.mpr ⟨z, List.dropLast_subset _ hz, rfl⟩))
          · rw [List.mem_singleton.mp hw]; exact (bad2_ok _ hb).2
      · rw [E3 z1 z2]; exact ⟨f1, f2⟩
  have split3 : (ws.map itS).set n p3 = (ws.take n).map itS ++ p3 :: (ws.drop (n + 1)).map itS := by
    rw [List.set_eq_take_append_cons_drop, if_pos (by rw [List.length_map]; exact nw), List.map_take, List.map_drop]
  refine ⟨_, rfl, _, rfl, hd3, _, _, rfl, hW3.rel, hdl, by rw [List.length_set, List.length_map]; omega, fun w hw => ?_, fun H4 s4 tl => ?_⟩
  · rcases List.mem_or_eq_of_mem_set hw with h' | h'
    · obtain ⟨z, hz, rfl⟩ := List.mem_map.mp h'
      exact its_few5 (htx z hz)
    · rw [h']; exact pl
  have e1 : (" " : Str).length = 1 := by decide +kernel
  have e2 : (";" : Str).length = 1 := by decide +kernel
  have e3 : ("; " : Str).length = 2 := by decide +kernel
  have e4 : ("\n" : Str).length = 1 := by decide +kernel
  have e5 : (":" : Str).length = 1 := by decide +kernel
  have good : 3 ≤ kind → textS hd3 ((ws.map itS).set n p3) = lineT a d ws := fun z => by
    rw [B3 (by omega), E3 (by omega) (by omega), self, textS_line]
  generalize hline : textS hd3 ((ws.map itS).set n p3) = line at tl good ⊢
  have i6 : 0 ≤ cell / 7 % 6 ∧ cell / 7 % 6 < 6 := ⟨Int.emod_nonneg _ (by decide), Int.emod_lt_of_pos _ (by decide)⟩
  refine ⟨_, rfl, rfl, _, rfl, ?_⟩
  rw [de]
  refine ite2 (fun cc => ?_) (fun cc => ?_)
  · have c' := of_decide_eq_true cc
    have gl := good (by omega)
    subst gl
    refine ⟨_, rfl, _, _, rfl, rfl, small (m := 10000) (by rw [e1]; omega), _, rfl, _, _, rfl, rfl, small (m := 10000) (by rw [e2]; omega), _, rfl, _, _, rfl, rfl, small (m := 10000) (by rw [e3]; omega), _, rfl, _, _, rfl, rfl, small (m := 10000) (by rw [e4]; omega), _, rfl, _, _, rfl, rfl, small (m := 10000) (by rw [e1]; omega), _, rfl, _, _, rfl, rfl, small (m := 10000) (by rw [e5]; omega), (by show 6 ≤ sizeLine; decide), fun lp hlp => ?_⟩
    obtain ⟨x, hx, hm, _⟩ := pick (l := [lineT a d ws ++ " ", lineT a d ws ++ ";", lineT a d ws ++ "; ", lineT a d ws ++ "\n", " " ++ lineT a d ws, lineT a d ws ++ ":"]) (n := cell / 7 % 6) i6.1 i6.2
    refine ⟨_, rfl, _, _, rfl, rfl, ⟨by decide, by decide⟩, _, _, rfl, rfl, (show (0 : Int) < 6 by decide), lp, _, _, .str x, rfl, rfl, SqL.of upd_same, hx, q _ _ (.inr ⟨x, rfl, ?_⟩)⟩
    simp only [List.mem_cons, List.not_mem_nil, or_false] at hm
    rcases hm with rfl | rfl | rfl | rfl | rfl | rfl
    · exact ⟨by rw [app_len, e1]; omega, bad_suf ha hd htx hne [32] (app_list _ _) fun z hz => by rw [run_cons, mid_32 hz]; rfl⟩
    · exact ⟨by rw [app_len, e2]; omega, bad_suf ha hd htx hne [59] (app_list _ _) fun z hz => by rw [run_cons, mid_59 hz]; rfl⟩
    · exact ⟨by rw [app_len, e3]; omega, bad_suf ha hd htx hne [59, 32] (app_list _ _) fun z hz => by rw [run_cons, mid_59 hz]; rfl⟩
    · exact ⟨by rw [app_len, e4]; omega, bad_suf ha hd htx hne [10] (app_list _ _) fun z hz => by rw [run_cons, mid_10 hz]; rfl⟩
    · refine ⟨by rw [app_len, e1]; omega, no_form ?_⟩
      rw [app_list]
      show accA (runA .s0 (32 :: _)) = false
      rw [run_cons, show stepA .s0 32 = .dead from rfl, run_dead]; rfl
    · exact ⟨by rw [app_len, e5]; omega, bad_suf ha hd htx hne [58] (app_list _ _) fun z hz => by rw [run_cons, mid_58 hz]; rfl⟩
  have n3 : ¬ kind = 3 := fun z => cc (decide_eq_true z)
  refine ⟨kind, rfl, fun c' => ?_, fun c' => ?_⟩
  · have gl := good (by omega)
    subst gl
    obtain ⟨zz, _, hm, hz⟩ := pick (l := bad4) (n := cell / 7 % 6) i6.1 i6.2
    obtain ⟨z1, z2, z3⟩ := bad4_ok zz hm
    have er : (rep1 (lineT a d ws) ":" zz).cps.toList = (headC a d).cps.toList ++ zz.cps.toList ++ (bodyT ws).cps.toList := by
      rw [str_list (line_l a d ws)]; exact rep_one (headC_few ha hd).2 zz
    have ll : (lineT a d ws).length = (headC a d).length + 1 + (bodyT ws).length := by
      unfold lineT; rw [app_len, app_len, e5]
    have rl : (rep1 (lineT a d ws) ":" zz).length ≤ 4200 := by
      rw [str_len, er, List.length_append, List.length_append, ← str_len, ← str_len, ← str_len]
      omega
    refine ⟨_, rfl, _, rfl, _, _, rfl, rfl, ⟨by decide, by decide⟩, _, _, rfl, rfl, (show (0 : Int) < 6 by decide), (cell / 7 % 6).toNat, zz, ?_, hz, z3, by omega, by omega, small (m := 10000) (by omega), q _ _ (.inr ⟨_, rfl, by omega, no_form ?_⟩)⟩
    · show V.int (cell / 7 % 6) = V.int _
      congr 1
      omega
    · obtain ⟨x, y, eh, ix, iy⟩ := head_l ha hd
      obtain ⟨t, et⟩ := body_32 hne
      rw [er, eh, et]
      show accA (runA .s0 (x :: 32 :: y :: (zz.cps.toList ++ 32 :: t))) = false
      rw [run_head3 ix iy, show zz.cps.toList ++ 32 :: t = (zz.cps.toList ++ [32]) ++ t by rw [List.append_assoc]; rfl, run_app, z1, run_dead]; rfl
  refine ⟨_, rfl, rfl, _, rfl, ?_⟩
  rw [de]
  refine ite2 (fun cc => ?_) (fun cc => ?_)
  · refine ⟨_, rfl, (by show 1 ≤ sizeLine; decide), fun tp htp => ?_⟩
    have s5 := same_upd htp (.tup [V.str line])
    have k5 : upd H4 tp (.tup [V.str line]) tp = some (.tup [V.str line]) := upd_same
    generalize upd H4 tp (.tup [V.str line]) = H5 at s5 k5 ⊢
    refine ⟨_, rfl, (by show 1 ≤ sizeLine; decide), fun lp hlp => ?_⟩
    have s6 := same_upd hlp (.lst [V.str line])
    have k6' : upd H5 lp (.lst [V.str line]) lp = some (.lst [V.str line]) := upd_same
    have k5' := s6 _ _ k5
    generalize upd H5 lp (.lst [V.str line]) = H6 at s6 k6' k5' ⊢
    refine ⟨(by show 5 ≤ sizeLine; decide), fun op hop => ?_⟩
    have s7 := same_upd hop (.lst [V.non, .int 1, .bl true, .ref tp, .ref lp])
    have k7 : upd H6 op (.lst [V.non, .int 1, .bl true, .ref tp, .ref lp]) op = some (.lst [V.non, .int 1, .bl true, .ref tp, .ref lp]) := upd_same
    replace k5' := s7 _ _ k5'
    replace k6' := s7 _ _ k6'
    generalize upd H6 op (.lst [V.non, .int 1, .bl true, .ref tp, .ref lp]) = H7 at s7 k7 k5' k6' ⊢
    obtain ⟨v, hv, bv⟩ : ∃ v, atI [V.non, .int 1, .bl true, .ref tp, .ref lp] (cell / 7 % 5) = some v ∧ BadV K H7 v := by
      have i5 : 0 ≤ cell / 7 % 5 ∧ cell / 7 % 5 < 5 := ⟨Int.emod_nonneg _ (by decide), Int.emod_lt_of_pos _ (by decide)⟩
      generalize cell / 7 % 5 = j at i5
      obtain rfl | rfl | rfl | rfl | rfl : j = 0 ∨ j = 1 ∨ j = 2 ∨ j = 3 ∨ j = 4 := by omega
      · exact ⟨_, atI_nat (j := 0) rfl, .inl ⟨"NoneType", rfl, rfl⟩⟩
      · exact ⟨_, atI_nat (j := 1) rfl, .inl ⟨"int", rfl, rfl⟩⟩
      · exact ⟨_, atI_nat (j := 2) rfl, .inl ⟨"bool", rfl, rfl⟩⟩
      · exact ⟨_, atI_nat (j := 3) rfl, .inl ⟨"tuple", .inr (.inl ⟨rfl, _, k5'⟩), rfl⟩⟩
      · exact ⟨_, atI_nat (j := 4) rfl, .inl ⟨"list", .inl ⟨rfl, .inl ⟨_, k6'⟩⟩, rfl⟩⟩
    exact ⟨_, rfl, _, _, rfl, rfl, ⟨by decide, by decide⟩, _, _, rfl, rfl, (show (0 : Int) < 5 by decide), op, _, _, v, rfl, rfl, SqL.of k7, hv, q _ _ bv⟩
  have n5 : ¬ kind = 5 := fun z => cc (decide_eq_true z)
  refine ⟨_, rfl, q _ _ (.inr ⟨line, rfl, by omega, ?_⟩)⟩
  by_cases z0 : kind = 0
  · refine no_form ?_
    rw [← hline, textS_l, show hd3.cps.toList ++ 58 :: flatL [59] (((ws.map itS).set n p3).map fun ws => wL (cpL ws)) = (hd3.cps.toList ++ [58]) ++ flatL [59] (((ws.map itS).set n p3).map fun ws => wL (cpL ws)) by rw [List.append_assoc]; rfl, run_app, (bad13_ok _ (A3 z0)).1, run_dead]; rfl
  · have hb : ∀ q, ahd q → runA q (wL (cpL p3)) = .dead ∨ runA q (wL (cpL p3)) = .bl := by
      by_cases z1 : kind = 1
      · obtain ⟨bw, hb, rfl⟩ := C3 z1
        exact first_bad (bad1_ok _ hb).1 rne
      · obtain ⟨bw, hb, rfl⟩ := D3 (by omega)
        exact last_bad (bad2_ok _ hb).1 rtx
    refine bad_text ha hd (as := (ws.take n).map itS) (bs := (ws.drop (n + 1)).map itS) (p := p3) [] (.inl rfl) ?_ (fun z hz => ?_) hb
    · rw [← hline, B3 z0, split3, List.append_nil]
    · obtain ⟨y, hy, rfl⟩ := List.mem_map.mp hz
      exact wish_l (htx y (List.mem_of_mem_take hy))
theorem form_is {a d : Int} {ws : List WR} (ha : CntOk a) (hd : CntOk d) (h : ∀ r ∈ ws, WTx r) : Form (lineT a d ws) a d ws := by
  refine ⟨_, _, _, _, line_part ha hd ws, headC_split ha hd, (cnt_few ha).2.2.2, (cnt_few hd).2.2.2, (numI_s (by have := ha.1; omega) (by have := ha.2; omega)).symm, (numI_s (by have := hd.1; omega) (by have := hd.2; omega)).symm, ?_⟩
  obtain ⟨b1, b2⟩ := body_split h
  by_cases en : ws = []
  · exact .inl ⟨b1 en, en⟩
  · refine .inr ⟨(b2 en).1, ?_⟩
    rw [(b2 en).2]
    have go : ∀ {ws : List WR}, (∀ r ∈ ws, WTx r) → Paired PR (ws.map wT) ws := fun {ws} h => by
      induction ws with
      | nil => exact .nil
      | cons r rs ih =>
        have t := h r List.mem_cons_self
        refine .cons ⟨r.1, r.2.map intS, wT_split t, t.nm, fun m hm => ?_, ?_⟩ (ih fun x hx => h x (List.mem_cons_of_mem _ hx))
        · obtain ⟨z, hz, rfl⟩ := List.mem_map.mp hm
          exact (num_gen (t.ns z hz).1 (t.ns z hz).2).1
        · refine Prod.ext rfl ?_
          show r.2 = (r.2.map intS).map numI
          rw [List.map_map]
          exact ((List.map_congr_left fun z hz => numI_s (t.ns z hz).1 (t.ns z hz).2).trans (List.map_id _)).symm
    exact go h
structure LineIs (v : V) (a d : Int) (ws : List WR) : Prop where
  e : v = .str (lineT a d ws)
  ha : CntOk a
  hd : CntOk d
  tx : ∀ r ∈ ws, WTx r
  few : ws.length ≤ 16
def Due (K : PySem.W.Frag) (H : Hp) (v : V) (x : Str) : Prop := (BadV K H v ∧ x = "NoText") ∨ (∃ a d ws, LineIs v a d ws ∧ 6 < ws.length ∧ x = "TooMany") ∨ ∃ a d ws, LineIs v a d ws ∧ ws.length ≤ 6 ∧ (∃ r ∈ ws, ¬ WOk a d r) ∧ x = "NoWish"
theorem line_sp {H : Hp} {v : V} {a d : Int} {ws : List WR} {Q : VK} {E : XK} (L : LineIs v a d ws) (q1 : 6 < ws.length → ∀ H', Same H H' → E (.ref (clK K "TooMany")) none H') (q2 : ws.length ≤ 6 → (∃ r ∈ ws, ¬ WOk a d r) → ∀ H', Same H H' → E (.ref (clK K "NoWish")) none H')
    (q3 : ws.length ≤ 6 → (∀ r ∈ ws, WOk a d r) → ∀ (p : Addr) (xs : List V) (H' : Hp), Same H H' → H' p = some (.tup xs) → Q (.ref p) H') : spRWsX K [v] H Q E := by
  have ll := line_few L.ha L.hd L.tx L.few
  refine ⟨v, rfl, .inr ⟨_, L.e, by omega, fun no => absurd (form_is L.ha L.hd L.tx) (no a d ws), fun a' d' ws' f => ?_⟩⟩
  obtain ⟨rfl, rfl, rfl⟩ := form_line L.ha L.hd L.tx f
  exact ⟨fun r hr => by have := (L.tx r hr).l; omega, q1, q2, q3⟩
theorem due_sp {H : Hp} {v : V} {x : Str} {Q : VK} {E : XK} (h : Due K H v x) (q : ∀ H', Same H H' → E (.ref (clK K x)) none H') : spRWsX K [v] H Q E := by
  rcases h with ⟨b, rfl⟩ | ⟨a, d, ws, L, l6, rfl⟩ | ⟨a, d, ws, L, l6, ⟨r, hr, no⟩, rfl⟩
  · rcases b with ⟨S, hk, kt⟩ | ⟨s, e, hs, no⟩
    · exact ⟨v, rfl, .inl ⟨S, hk, kt, q⟩⟩
    · exact ⟨v, rfl, .inr ⟨s, e, hs, fun _ => q, fun a d ws f => absurd f (no a d ws)⟩⟩
  · exact line_sp L (fun _ => q) (fun z => by omega) (fun z => by omega)
  · exact line_sp L (fun z => by omega) (fun _ _ => q) (fun _ z => absurd (z r hr) no)
theorem Due.up {H H' : Hp} {v : V} {x : Str} (due : Due K H v x) (s0 : Same H H') : Due K H' v x := by
  rcases due with ⟨b, e⟩ | z
  · refine .inl ⟨?_, e⟩
    rcases b with ⟨S, hk, kt⟩ | z
    · refine .inl ⟨S, ?_, kt⟩
      cases v with
      | ref a =>
        rcases hk with ⟨e1, ⟨xs, hk⟩ | ⟨o, xs, hk⟩⟩ | ⟨e1, xs, hk⟩ | ⟨e1, kvs, hk⟩
        · exact .inl ⟨e1, .inl ⟨xs, s0 _ _ hk⟩⟩
        · exact .inl ⟨e1, .inr ⟨o, xs, s0 _ _ hk⟩⟩
        · exact .inr (.inl ⟨e1, xs, s0 _ _ hk⟩)
        · exact .inr (.inr ⟨e1, kvs, s0 _ _ hk⟩)
      | non => exact hk
      | bl b => exact hk
      | int i => exact hk
      | str z => exact hk
      | byt b => exact hk
      | flt b => exact hk
      | ty n => exact hk
    · exact .inr z
  · exact .inr z
def mk5 (x : Str) : List Bool := [true, decide (x = "NoText"), decide (x = "TooMany"), decide (x = "NoWish"), false]
def spMarks (K : PySem.W.Frag) : Sp := fun vs H Q _ => ∃ (v : V) (x : Str), vs = [v] ∧ Due K H v x ∧ x ∈ xRs ∧ ∀ (p : Addr) (H' : Hp), Same H H' → H' p = some (.lst ((mk5 x).map V.bl)) → Q (.ref p) H'
theorem ok_marks (F : DefAt K mg "_law_marks" s_law_marks ["_law_line"]) (T : Txt mg) (XC : XT K mg "GarthError" xRs xNs) (D_read_wishes : DnX P w K mg base "read_wishes" 5 ["text"] (spRWsX K)) : Dn P w K mg base "_law_marks" 6 ["_law_line"] (spMarks K) := by
  have sc := sc_law_marks
  refine F.ok sc (fun vs H Q E h => ?_) (fun f cdv A outer s H vs Q E hr h => ?_)
  · obtain ⟨_, _, rfl, _⟩ := h; rfl
  obtain ⟨v, x, rfl, due, hx, q⟩ := h
  refine ⟨_, (pss_cons (ps_set (i := 1) sc.nd rfl (Or.inl rfl) (pe_lst pa_nil))
      (pss_cons (ps_tryE (i := 2) D_read_wishes hr (pa_cons (pv 0) pa_nil) (XC.m "GarthError" (by decide)) (fun _ => (pss_cons (ps_set (i := 1) sc.nd rfl (Or.inl rfl) (pe_lst (pa_cons (pe_callB (call_isiVK (T := "ValueError") (K := K) rfl) rfl T.b_isinstance PyProof.Rows.boot_isinstance (pa_cons (pv 2) (pa_cons (pe_bltn (v := .ty "ValueError") rfl T.b_ValueError boot_VE rfl) pa_nil))) (pa_cons (pe_callB (call_isiEK (K := K) rfl) rfl T.b_isinstance PyProof.Rows.boot_isinstance (pa_cons (pv 2) (pa_cons (pe_glob (v := .ref (clK K "NoText")) rfl (XC.m "NoText" (by decide)) rfl) pa_nil))) (pa_cons (pe_callB (call_isiEK (K := K) rfl) rfl T.b_isinstance PyProof.Rows.boot_isinstance (pa_cons (pv 2) (pa_cons (pe_glob (v := .ref (clK K "TooMany")) rfl (XC.m "TooMany" (by decide)) rfl) pa_nil))) (pa_cons (pe_callB (call_isiEK (K := K) rfl) rfl T.b_isinstance PyProof.Rows.boot_isinstance (pa_cons (pv 2) (pa_cons (pe_glob (v := .ref (clK K "NoWish")) rfl (XC.m "NoWish" (by decide)) rfl) pa_nil))) pa_nil))))))
      (pss_one (ps_set (i := 1) sc.nd rfl (Or.inl rfl) (pe_op op_cat (pv 1) (pe_lst (pa_cons (pe_callB (call_isiTK (K := K) rfl) rfl T.b_isinstance PyProof.Rows.boot_isinstance (pa_cons (pv 2) (pa_cons (pe_tup (pa_cons (pe_glob (v := .ref (clK K "NoAsk")) rfl (XC.m "NoAsk" (by decide)) rfl) (pa_cons (pe_glob (v := .ref (clK K "NoName")) rfl (XC.m "NoName" (by decide)) rfl) pa_nil))) pa_nil))) pa_nil))))))) sc.nd rfl rfl)
      (pss_one (ps_ret (pv 1))))), ?_⟩
  refine ⟨Nat.zero_le _, fun p0 h0 => ?_⟩
  have s0 := same_upd h0 (.lst [])
  have due' := due.up s0
  generalize upd H p0 (.lst []) = H0 at s0 due' ⊢
  refine ⟨_, rfl, ?_⟩
  unfold tNil
  refine due_sp due' fun H1 s1 => ?_
  refine ⟨_, rfl, XC.hit x hx, fun ea hea => ?_⟩
  have he : upd H1 ea (xcO ea (clK K x)) ea = some (xcO ea (clK K x)) := upd_same
  have s2 := s0.trans (s1.trans (same_upd hea (xcO ea (clK K x))))
  generalize upd H1 ea (xcO ea (clK K x)) = H2 at he s2 ⊢
  have k := XC.k x hx
  refine ⟨_, rfl, ea, _, _, rfl, he, k, XC.val x hx, _, rfl, ea, _, _, _, rfl, he, k, XC.one x hx "NoText" (by decide), _, rfl, ea, _, _, _, rfl, he, k, XC.one x hx "TooMany" (by decide), _, rfl, ea, _, _, _, rfl, he, k, XC.one x hx "NoWish" (by decide), (by show 4 ≤ sizeLine; decide), fun p1 h1 => ?_⟩
  have s3 := same_upd h1 (.lst [V.bl true, .bl (decide (x = "NoText")), .bl (decide (x = "TooMany")), .bl (decide (x = "NoWish"))])
  have k3 : upd H2 p1 (.lst [V.bl true, .bl (decide (x = "NoText")), .bl (decide (x = "TooMany")), .bl (decide (x = "NoWish"))]) p1 = some (.lst [V.bl true, .bl (decide (x = "NoText")), .bl (decide (x = "TooMany")), .bl (decide (x = "NoWish"))]) := upd_same
  replace he := s3 _ _ he
  replace s3 := s2.trans s3
  generalize upd H2 p1 (.lst [V.bl true, .bl (decide (x = "NoText")), .bl (decide (x = "TooMany")), .bl (decide (x = "NoWish"))]) = H3 at s3 k3 he ⊢
  have kf : ∀ y ∈ xNs, y ∉ xRs → PySem.W.kitOne K (.ref (clK K x)) (.ref (clK K y)) = some false := fun y hy hn => by
    have h := XC.one x hx y hy
    have ne : ¬ x = y := fun e => hn (by rw [← e]; exact hx)
    rwa [decide_eq_false ne] at h
  refine ⟨_, rfl, _, rfl, (by show 2 ≤ sizeLine; decide), fun tp htp => ?_⟩
  have s4 := same_upd htp (.tup [V.ref (clK K "NoAsk"), .ref (clK K "NoName")])
  have k4 : upd H3 tp (.tup [V.ref (clK K "NoAsk"), .ref (clK K "NoName")]) tp = some (.tup ([clK K "NoAsk", clK K "NoName"].map V.ref)) := upd_same
  replace he := s4 _ _ he
  replace k3 := s4 _ _ k3
  replace s4 := s3.trans s4
  generalize upd H3 tp (.tup [V.ref (clK K "NoAsk"), .ref (clK K "NoName")]) = H4 at s4 k4 k3 he ⊢
  refine ⟨ea, _, tp, _, rfl, he, k, k4, fun c hc => ?_, (by show 1 ≤ sizeLine; decide), fun p2 h2 => ?_⟩
  · simp only [List.mem_cons, List.not_mem_nil, or_false] at hc
    rcases hc with rfl | rfl
    · exact kf "NoAsk" (by decide) (by decide)
    · exact kf "NoName" (by decide) (by decide)
  refine ⟨p1, p2, _, _, rfl, rfl, same_upd h2 _ _ _ k3, upd_same, (by show 5 ≤ sizeLine; decide), fun p3 h3 => ?_⟩
  exact ⟨_, rfl, q p3 _ (s4.trans ((same_upd h2 _).trans (same_upd h3 _))) upd_same⟩
theorem HW.push {H1 H2 : Hp} {g : Addr} {as : List Addr} {W : List (List Str)} (h : HW H1 g as W) {p : Addr} {w : List Str} (s : Same H1 H2) (f : H1 p = none) (hp : H2 p = some (.lst (w.map V.str))) : HW (upd H2 g (.lst (as.map V.ref ++ [.ref p]))) g (as ++ [p]) (W ++ [w]) := by
  have pg : p ≠ g := fun e => by rw [e, h.hg] at f; cases f
  have pa : p ∉ as := fun z => by
    obtain ⟨i, hi⟩ := List.getElem?_of_mem z
    have il : i < W.length := by rw [← h.len]; exact (List.getElem?_eq_some_iff.mp hi).1
    rw [h.cell i p _ hi (List.getElem?_eq_getElem il)] at f; cases f
  refine ⟨by rw [upd_same, List.map_append]; rfl, List.nodup_append.mpr ⟨h.nd, List.nodup_cons.mpr ⟨(fun z => by cases z), List.nodup_nil⟩, fun x hx y hy => ?_⟩, fun z => ?_, by rw [List.length_append, List.length_append, h.len]; rfl, fun i x v hx hv => ?_⟩
  · rw [List.mem_singleton.mp hy]
    intro e; exact pa (e ▸ hx)
  · rcases List.mem_append.mp z with z | z
    · exact h.ng z
    · exact pg (List.mem_singleton.mp z).symm
  · rcases Nat.lt_or_ge i as.length with il | il
    · rw [List.getElem?_append_left il] at hx
      rw [List.getElem?_append_left (by rw [← h.len]; exact il)] at hv
      have xg : x ≠ g := fun e => h.ng (by rw [← e]; exact List.mem_of_getElem? hx)
      rw [upd_ne xg]
      exact s _ _ (h.cell i x v hx hv)
    · rw [List.getElem?_append_right il] at hx
      rw [List.getElem?_append_right (by rw [← h.len]; exact il)] at hv
      have e0 : i - as.length = 0 := by
        have := (List.getElem?_eq_some_iff.mp hx).1
        simpa using this
      have e1 : i - W.length = 0 := by rw [← h.len]; exact e0
      rw [e0] at hx
      rw [e1] at hv
      injection hx with hx
      injection hv with hv
      subst hx; subst hv
      rw [upd_ne pg]; exact hp
theorem wok_calm : WTx ("calm", [0]) := ⟨by decide +kernel, fun x hx => by rw [List.mem_singleton.mp hx]; decide, by decide⟩
abbrev bad5 : List Str := [" ", "; Not 0 0", "; not 00 0", "; often  0", ";often 0"]
theorem bad5_ok : ∀ x ∈ bad5, (∀ q, midA q = true → accA (runA q x.cps.toList) = false) ∧ x.length ≤ 20 := by
  have h : bad5.all (fun x => decide (x.length ≤ 20) && (decide (x.cps.toList = [32]) || (decide (x.cps.toList.head? = some 59) && !accA (runA .pt x.cps.toList.tail)))) = true := by decide +kernel
  intro x hx
  have := List.all_eq_true.mp h x hx
  rw [Bool.and_eq_true, Bool.or_eq_true, Bool.and_eq_true] at this
  refine ⟨fun q hq => ?_, of_decide_eq_true this.1⟩
  rcases this.2 with e | ⟨e1, e2⟩
  · rw [of_decide_eq_true e, run_cons, mid_32 hq]; rfl
  · have e1 := of_decide_eq_true e1
    cases hc : x.cps.toList with
    | nil => rw [hc] at e1; cases e1
    | cons c l =>
      rw [hc] at e1 e2
      injection e1 with e1
      subst e1
      rw [run_cons, mid_59 hq]
      simpa using e2
def spLaw (K : PySem.W.Frag) : Sp := fun vs H Q _ => ∃ (a : Addr) (ns : List Int), vs = [.ref a] ∧ SqL K H a (ns.map V.int) ∧ ns.length ≤ 63 ∧ ∀ H', Q (.bl true) H'
theorem ok_law {f : Addr} {fd : FuncData} (F : Fun K "law" "law" s_law f fd) (T : Txt mg) (D_read_wishes : DnX P w K mg base "read_wishes" 5 ["text"] (spRWsX K)) (D_law_cell_at : Dn P w K mg base "_law_cell_at" 1 ["_law_script", "_law_k"] (spCell K)) (D_law_wish : Dn P w K mg base "_law_wish" 1 ["_law_cell", "_law_asks", "_law_deeds"] spWish) (D_law_text : Dn P w K mg base "_law_text" 1 ["_law_head", "_law_wishes"] (spText K))
    (D_law_spoiled : Dn P w K mg base "_law_spoiled" 2 ["_law_head", "_law_wishes", "_law_kind", "_law_cell"] (spSp K)) (D_law_no_wish : Dn P w K mg base "_law_no_wish" 1 ["_law_wish_here", "_law_asks", "_law_deeds", "_law_cell"] spNoW) (D_law_marks : Dn P w K mg base "_law_marks" 6 ["_law_line"] (spMarks K)) : FnOk P w K mg base CX0 7 f fd ["_law_script"] (spLaw K) := by
  have sc := sc_law
  refine F.ok sc (fun vs H Q E h => ?_) (fun cdv A outer s H vs Q E hr h => ?_)
  · obtain ⟨_, _, rfl, _⟩ := h; rfl
  obtain ⟨sa, ns, rfl, hS, h63, q⟩ := h
  refine ⟨_, (pss_cons (ps_set (i := 1) sc.nd rfl (Or.inl rfl) (pe_op op_mod (pe_op op_mul (pe_dn D_law_cell_at hr (pa_cons (pv 0) (pa_cons pe_int pa_nil))) pe_int) pe_int))
      (pss_cons (ps_set (i := 2) sc.nd rfl (Or.inl rfl) (pe_op op_add pe_int (pe_op op_mod (pv 1) pe_int)))
      (pss_cons (ps_set (i := 3) sc.nd rfl (Or.inl rfl) (pe_op op_add pe_int (pe_op op_mod (pe_op op_fdiv (pv 1) pe_int) pe_int)))
      (pss_cons (ps_set (i := 4) sc.nd rfl (Or.inl rfl) (pe_op op_add_str (pe_op op_add_str (pe_callTy call_str_int rfl T.b_str PyProof.Rows.boot_str (pa_cons (pv 2) pa_nil)) pe_str) (pe_callTy call_str_int rfl T.b_str PyProof.Rows.boot_str (pa_cons (pv 3) pa_nil))))
      (pss_cons (ps_set (i := 5) sc.nd rfl (Or.inl rfl) (pe_lst pa_nil))
      (pss_cons (ps_for PassesOwn.never rfl (pi_range1 rfl T.b_range (pa_cons (pe_op op_add pe_int (pe_op op_mod (pe_op op_fdiv (pv 1) pe_int) pe_int)) pa_nil)) (pg_name (i := 6) sc.nd rfl (Or.inl rfl))
      (pss_one (ps_expr (pe_bm PySem.F.plainAttrs_list PySem.F.slot_list_append PySem.F.type_list_append mt_append (pv 5) (pa_cons (pe_dn D_law_wish hr (pa_cons (pe_op op_add (pe_dn D_law_cell_at hr (pa_cons (pv 0) (pa_cons (pe_op op_add pe_int (pv 6)) pa_nil))) (pe_op op_mul (pe_op op_mul pe_int (pv 6)) (pv 6))) (pa_cons (pv 2) (pa_cons (pv 3) pa_nil)))) pa_nil)))))
      (pss_cons (ps_set (i := 7) sc.nd rfl (Or.inl rfl) (pe_dn D_law_text hr (pa_cons (pv 4) (pa_cons (pv 5) pa_nil))))
      (pss_cons (ps_set (i := 8) sc.nd rfl (Or.inl rfl) (pe_op op_mod (pe_op op_fdiv (pv 1) pe_int) pe_int))
      (pss_cons (ps_set (i := 1) sc.nd rfl (Or.inl rfl) (pe_op op_mod (pe_op op_mul (pe_dn D_law_cell_at hr (pa_cons (pv 0) (pa_cons pe_int pa_nil))) pe_int) pe_int))
      (pss_cons (ps_set (i := 9) sc.nd rfl (Or.inl rfl) pe_non)
      (pss_cons (ps_set (i := 10) sc.nd rfl (Or.inr rfl) pe_str)
      (pss_cut (ps_if (pt_cmpR op_lt (pv 8) pe_int (nomark _))
      (pss_one (ps_set (i := 9) sc.nd rfl (Or.inl rfl) (pe_dn D_law_spoiled hr (pa_cons (pv 4) (pa_cons (pv 5) (pa_cons (pv 8) (pa_cons (pv 1) pa_nil)))))))
      (pss_cons (ps_set (i := 10) sc.nd rfl (Or.inr rfl) pe_str)
      (pss_cut (ps_if (pt_cmpR op_lt (pv 8) pe_int (nomark _))
      (pss_one (ps_expr (pe_dn D_law_no_wish hr (pa_cons (pe_ix (ixL (K := K) rfl) (pv 5) (pe_op op_mod (pe_op op_fdiv (pv 1) pe_int) (pe_callB (clLen (K := K) rfl) rfl T.b_len PySem.boot_len (pa_cons (pv 5) pa_nil))) (fun _ _ => rfl)) (pa_cons (pv 2) (pa_cons (pv 3) (pa_cons (pv 1) pa_nil)))))))
      pss_nil)
      (pss_cut (ps_if (pt_cmpR op_gt (pv 8) pe_int (nomark _))
      (pss_cons (ps_set (i := 10) sc.nd rfl (Or.inr rfl) pe_str)
      (pss_one (ps_while PassesOwn.never (pt_cmpR op_lt (pe_callB (clLen (K := K) rfl) rfl T.b_len PySem.boot_len (pa_cons (pv 5) pa_nil)) (pe_op op_add pe_int (pe_op op_mod (pe_op op_fdiv (pv 1) pe_int) pe_int)) (nomark _))
      (pss_one (ps_expr (pe_bm PySem.F.plainAttrs_list PySem.F.slot_list_append PySem.F.type_list_append mt_append (pv 5) (pa_cons (pe_lst (pa_cons pe_str (pa_cons pe_str pa_nil))) pa_nil)))))))
      pss_nil)
      (pss_cons (ps_set (i := 9) sc.nd rfl (Or.inl rfl) (pe_dn D_law_text hr (pa_cons (pv 4) (pa_cons (pv 5) pa_nil))))
      (pss_one (ps_if (pt_cmpR op_eq (pe_op op_mod (pe_dn D_law_cell_at hr (pa_cons (pv 0) (pa_cons pe_int pa_nil))) pe_int) pe_int (nomark _))
      (pss_cons (ps_set (i := 9) sc.nd rfl (Or.inl rfl) (pe_op op_add_str (pv 9) (pe_ix (ixL (K := K) rfl) (pe_strs (Lits.cons (Lits.cons (Lits.cons (Lits.cons (Lits.cons Lits.nil)))))) (pe_op op_mod (pe_op op_fdiv (pe_dn D_law_cell_at hr (pa_cons (pv 0) (pa_cons pe_int pa_nil))) pe_int) pe_int) (fun _ _ => rfl))))
      (pss_one (ps_set (i := 10) sc.nd rfl (Or.inr rfl) pe_str)))
      pss_nil)))))))
      (pss_cons (ps_set (i := 11) sc.nd rfl (Or.inl rfl) (pe_lst (pa_cons pe_str (pa_cons pe_str (pa_cons pe_str pa_nil)))))
      (pss_cons (ps_if (pt_cmpR (op_neR (rcok_lst eqok_bool) (hu_n hr 1)) (pe_dn D_law_marks hr (pa_cons (pv 9) pa_nil)) (pe_op op_cat (pe_op op_cat (pe_lst (pa_cons pe_bl pa_nil)) (pe_lc (defScope s_law) ["_law_script", "_law_cell", "_law_asks", "_law_deeds", "_law_head", "_law_wishes", "_law_k", "_law_good", "_law_kind", "_law_line", "_law_due", "_law_words"] ["_law_word", "_law_due"] 1 [10] (pi_list (pv 11)) (fun _ _ _ _ _ _ => (ptg_name (show List.Nodup (["_law_word", "_law_due"] : List Str) by decide +kernel) rfl rfl)) (fun _ _ _ _ _ _ => pts_nil) (fun _ _ _ _ _ _ => (pe_cmpR op_eq (pv 0) (pv 1) (nomark _))))) (pe_lst (pa_cons pe_bl pa_nil))) (nomark _))
      (pss_one (ps_ret pe_bl))
      pss_nil)
      (pss_one (ps_ret (pe_callB (clIsi (K := K) rfl (T := "tuple")) rfl T.b_isinstance PyProof.Rows.boot_isinstance (pa_cons (pe_dnX passX0 D_read_wishes hr (pa_cons (pv 7) pa_nil)) (pa_cons (pe_bltn (v := .ty "tuple") rfl T.b_tuple PyProof.Rows.boot_tuple rfl) pa_nil))))))))))))))))))), ?_⟩
  refine ⟨_, rfl, sa, ns, 0, rfl, hS, h63, by decide, fun z0 => ⟨_, _, rfl, rfl, .inr ⟨by decide, by decide⟩, _, _, rfl, rfl, (show (0 : Int) < 65537 by decide), ?_⟩⟩
  have c0 : 0 ≤ z0 * 48271 % 65537 ∧ z0 * 48271 % 65537 < 65537 := ⟨Int.emod_nonneg _ (by decide), Int.emod_lt_of_pos _ (by decide)⟩
  generalize hc : z0 * 48271 % 65537 = cell at c0
  replace hc : (fun i j : Int => V.int (i % j)) (z0 * 48271) 65537 = V.int cell := by rw [← hc]
  rw [hc]
  clear hc
  refine ⟨_, rfl, _, _, rfl, rfl, (show (0 : Int) < 3 by decide), _, _, rfl, rfl, ?_⟩
  refine ⟨_, rfl, _, _, rfl, rfl, ⟨by decide, by decide⟩, _, _, rfl, rfl, (show (0 : Int) < 3 by decide), _, _, rfl, rfl, ?_⟩
  obtain ⟨a, ha'⟩ : ∃ a, a = 1 + cell % 3 := ⟨_, rfl⟩
  obtain ⟨d, hd'⟩ : ∃ d, d = 1 + cell / 3 % 3 := ⟨_, rfl⟩
  have ha : CntOk a := ⟨by omega, by omega⟩
  have hd : CntOk d := ⟨by omega, by omega⟩
  replace ha' : (fun i j : Int => V.int (i + j)) 1 (cell % 3) = V.int a := by rw [ha']
  replace hd' : (fun i j : Int => V.int (i + j)) 1 (cell / 3 % 3) = V.int d := by rw [hd']
  rw [ha', hd']
  clear ha' hd'
  have a1 := ha.1
  have a3 := ha.2
  have d1 := hd.1
  have d3 := hd.2
  have la := (cnt_few ha).1
  have ld := (cnt_few hd).1
  have e1 : (" " : Str).length = 1 := by decide +kernel
  refine ⟨_, rfl, _, rfl, log_s (by omega) (by omega), _, _, rfl, rfl, small (m := 1000) (by show (intS a).length + (" " : Str).length ≤ 1000; rw [e1]; omega), _, rfl, _, rfl, log_s (by omega) (by omega), _, _, rfl, rfl, small (m := 1000) (by show (intS a ++ " ").length + (intS d).length ≤ 1000; rw [app_len, e1]; omega), ?_⟩
  refine ⟨Nat.zero_le _, fun g hg => ?_⟩
  have m5 : 0 ≤ cell / 9 % 5 ∧ cell / 9 % 5 < 5 := ⟨Int.emod_nonneg _ (by decide), Int.emod_lt_of_pos _ (by decide)⟩
  refine ⟨_, rfl, _, _, rfl, rfl, ⟨by decide, by decide⟩, _, _, rfl, rfl, (show (0 : Int) < 5 by decide), _, _, rfl, rfl, _, rfl, by omega, by omega, for_range (lo := 0) (n := (1 + cell / 9 % 5).toNat) (fun i σ H2 => ∃ (as : List Addr) (ws : List WR) (y : Option V), σ = [some (.ref sa), some (.int cell), some (.int a), some (.int d), some (.str (headC a d)), some (.ref g), y, none, none, none, none, none] ∧ Same H H2 ∧ HW H2 g as (ws.map itS) ∧ ws.length = i ∧ (∀ r ∈ ws, WOk a d r) ∧ ∀ x ∈ as, H x = none)
    ⟨[], [], _, rfl, same_upd hg _, ⟨upd_same, List.nodup_nil, (fun z => by cases z), rfl, (fun i x w h => by simp at h)⟩, rfl, (fun _ z => by cases z), (fun _ z => by cases z)⟩ (fun i σ H2 hi h => ?_) (fun σ H2 h => ?_)⟩
  · obtain ⟨as, ws, y, rfl, s2, hW, wl, hok, hfr⟩ := h
    refine ⟨_, rfl, .inl ⟨rfl, _, SqL.of hW.hg⟩, _, rfl, _, rfl, _, _, rfl, rfl, sa, ns, _, rfl, s2.seq hS, h63, by omega, fun z => ?_⟩
    refine ⟨_, rfl, _, _, rfl, rfl, .inl ⟨by decide, by decide⟩, _, rfl, _, _, rfl, rfl, .inr ⟨by omega, by omega⟩, _, _, rfl, rfl, _, rfl, _, rfl, _, a, d, rfl, ha, hd, fun p r H3 s3 f3 k3 ok => ?_⟩
    have gl : (as.map V.ref).length < 1000 := by rw [List.length_map, hW.len, List.length_map]; omega
    refine ⟨g, _, _, rfl, rfl, s3 _ _ hW.hg, smlt (m := 1000) (Nat.le_of_lt gl), ?_⟩
    have := hW.push s3 f3 k3
    refine ⟨as ++ [p], ws ++ [r], _, rfl, (s2.trans s3).put hg _, by rw [List.map_append]; exact this, by rw [List.length_append, wl]; rfl, fun r' hr' => ?_, fun x hx => ?_⟩
    rotate_left
    · rcases List.mem_append.mp hx with h | h
      · exact hfr x h
      · rw [List.mem_singleton.mp h]; exact s2.free f3
    rcases List.mem_append.mp hr' with h | h
    · exact hok r' h
    · rw [List.mem_singleton.mp h]; exact ok
  obtain ⟨as, ws, y, rfl, s2, hW, wl, hok, hfr⟩ := h
  have wl5 : 1 ≤ ws.length ∧ ws.length ≤ 5 := by omega
  have wne : ws ≠ [] := fun e => by rw [e] at wl5; simp at wl5
  have htx : ∀ r ∈ ws, WTx r := fun r hr => wok_tx (hok r hr) a3 d3
  have tx5 : ∀ {vs : List WR}, (∀ r ∈ vs, WTx r) → ∀ w ∈ vs.map itS, w.length ≤ 5 ∧ ∀ x ∈ w, x.length ≤ 20 := fun h w hw => by
    obtain ⟨r, hr, rfl⟩ := List.mem_map.mp hw
    exact its_few5 (h r hr)
  have hl100 : (headC a d).length ≤ 100 := by have := (headC_few ha hd).1; omega
  refine ⟨_, rfl, _, rfl, headC a d, _, _, rfl, hW.rel, hl100, by rw [List.length_map]; omega, tx5 htx, fun H3 s3 _ => ?_⟩
  rw [textS_line]
  replace hW := hW.up s3
  replace s3 := s2.trans s3
  refine ⟨_, rfl, _, _, rfl, rfl, ⟨by decide, by decide⟩, _, _, rfl, rfl, (show (0 : Int) < 10 by decide), ?_⟩
  have kb : 0 ≤ cell / 45 % 10 ∧ cell / 45 % 10 < 10 := ⟨Int.emod_nonneg _ (by decide), Int.emod_lt_of_pos _ (by decide)⟩
  generalize hk : cell / 45 % 10 = kind at kb
  replace hk : (fun i j : Int => V.int (i % j)) (cell / 45) 10 = V.int kind := by rw [← hk]
  rw [hk]
  clear hk
  refine ⟨_, rfl, sa, ns, 1, rfl, s3.seq hS, h63, by decide, fun z1 => ⟨_, _, rfl, rfl, .inr ⟨by decide, by decide⟩, _, _, rfl, rfl, (show (0 : Int) < 65521 by decide), ?_⟩⟩
  have cb : 0 ≤ z1 * 16807 % 65521 ∧ z1 * 16807 % 65521 < 65521 := ⟨Int.emod_nonneg _ (by decide), Int.emod_lt_of_pos _ (by decide)⟩
  generalize hc : z1 * 16807 % 65521 = c at cb
  replace hc : (fun i j : Int => V.int (i % j)) (z1 * 16807) 65521 = V.int c := by rw [← hc]
  rw [hc]
  clear hc
  refine ⟨fun σ' H1 => ∃ (v : V) (x : Str), σ' = [some (.ref sa), some (.int c), some (.int a), some (.int d), some (.str (headC a d)), some (.ref g), y, some (.str (lineT a d ws)), some (.int kind), some v, some (.str x), none] ∧ Due K H1 v x ∧ x ∈ xRs, ?_, ?_⟩
  · refine ⟨_, rfl, _, _, rfl, rfl, _, rfl, ?_⟩
    refine ite2 (fun cc => ?_) (fun cc => ?_)
    · have c' : kind < 6 := of_decide_eq_true cc
      refine ⟨_, rfl, _, rfl, _, rfl, _, rfl, g, as, a, d, kind, c, ws, rfl, ha, hd, hW, wne, by omega, hok, kb.1, c', cb.1, cb.2, fun v H4 bv => ?_⟩
      exact ⟨v, "NoText", rfl, .inl ⟨bv, rfl⟩, by decide⟩
    have ck : ¬ kind < 6 := fun z => cc (decide_eq_true z)
    refine ⟨fun σ' H1 => ∃ vs : List WR, σ' = [some (.ref sa), some (.int c), some (.int a), some (.int d), some (.str (headC a d)), some (.ref g), y, some (.str (lineT a d ws)), some (.int kind), some .non, some (.str "NoWish"), none] ∧ Same H H1 ∧ HW H1 g as (vs.map itS) ∧ vs.length = ws.length ∧ (∀ r ∈ vs, WTx r) ∧ (kind < 9 → ∃ r ∈ vs, ¬ WOk a d r), ?_, ?_⟩
    · refine ⟨_, rfl, _, _, rfl, rfl, _, rfl, ?_⟩
      refine ite2 (fun cc => ?_) (fun cc => ?_)
      rotate_left
      · have c9 : ¬ kind < 9 := fun z => cc (decide_eq_true z)
        exact ⟨ws, rfl, s3, hW, rfl, htx, fun z => absurd z c9⟩
      have al : as.length = ws.length := by rw [hW.len, List.length_map]
      have m0 := Int.emod_nonneg (c / 97) (show ((as.map V.ref).length : Int) ≠ 0 by rw [List.length_map]; omega)
      have m1 := Int.emod_lt_of_pos (c / 97) (show (0 : Int) < ((as.map V.ref).length : Int) by rw [List.length_map]; omega)
      obtain ⟨n, hn⟩ := Int.eq_ofNat_of_zero_le m0
      rw [hn, List.length_map] at m1
      have nl : n < as.length := by omega
      have nw : n < ws.length := by omega
      obtain ⟨wa, hwa⟩ : ∃ wa, as[n]? = some wa := ⟨_, List.getElem?_eq_getElem nl⟩
      obtain ⟨r, hr0⟩ : ∃ r, ws[n]? = some r := ⟨_, List.getElem?_eq_getElem nw⟩
      have kw := hW.cell n wa (itS r) hwa (by rw [List.getElem?_map, hr0]; rfl)
      refine ⟨_, rfl, _, rfl, _, _, rfl, rfl, ⟨by decide, by decide⟩, _, rfl, g, _, rfl, .inl (SqL.of hW.hg), _, _, rfl, rfl, (by rw [List.length_map]; omega), g, _, _, .ref wa, rfl, rfl, SqL.of hW.hg, (by rw [hn]; exact atI_nat (j := n) (by rw [List.getElem?_map, hwa]; rfl)), _, rfl, _, rfl, _, rfl, wa, a, d, c, r, rfl, kw, ha, hd, hok r (List.mem_of_getElem? hr0), cb.1, cb.2, fun r' H4 st k4 nw' => ?_⟩
      have sH : Same H H4 := fun b o e => st b o (fun z => by rw [z, hfr wa (List.mem_of_getElem? hwa)] at e; cases e) (s3 _ _ e)
      have hW4 := hW.set (w := itS r') hwa st k4
      rw [← List.map_set] at hW4
      refine ⟨ws.set n r', rfl, sH, hW4, List.length_set, fun x hx => ?_, fun _ => ⟨r', List.mem_of_getElem? (i := n) (List.getElem?_set_self nw), nw'.no⟩⟩
      rcases List.mem_or_eq_of_mem_set hx with h | h
      · exact htx x h
      · rw [h]; exact nw'.tx
    rintro σ' H4 ⟨vs, rfl, s4, hW4, vl, vtx, vno⟩
    refine ⟨fun σ' H1 => ∃ (as' : List Addr) (us : List WR) (x : Str), σ' = [some (.ref sa), some (.int c), some (.int a), some (.int d), some (.str (headC a d)), some (.ref g), y, some (.str (lineT a d ws)), some (.int kind), some .non, some (.str x), none] ∧ Same H H1 ∧ HW H1 g as' (us.map itS) ∧ us.length ≤ 15 ∧ us ≠ [] ∧ (∀ r ∈ us, WTx r) ∧ ((x = "TooMany" ∧ 6 < us.length) ∨ (x = "NoWish" ∧ us.length ≤ 6 ∧ ∃ r ∈ us, ¬ WOk a d r)), ?_, ?_⟩
    · refine ⟨_, rfl, _, _, rfl, rfl, _, rfl, ?_⟩
      refine ite2 (fun cc => ?_) (fun cc => ?_)
      rotate_left
      · have c7 : ¬ 7 < kind := fun z => cc (decide_eq_true z)
        exact ⟨as, vs, "NoWish", rfl, s4, hW4, by omega, fun e => by rw [e] at vl; simp at vl; omega, vtx, .inr ⟨rfl, by omega, vno (by omega)⟩⟩
      have m9 : 0 ≤ c / 11 % 9 ∧ c / 11 % 9 < 9 := ⟨Int.emod_nonneg _ (by decide), Int.emod_lt_of_pos _ (by decide)⟩
      refine ⟨fun m σ H2 => ∃ (as' : List Addr) (us : List WR), σ = [some (.ref sa), some (.int c), some (.int a), some (.int d), some (.str (headC a d)), some (.ref g), y, some (.str (lineT a d ws)), some (.int kind), some .non, some (.str "TooMany"), none] ∧ Same H H2 ∧ HW H2 g as' (us.map itS) ∧ us.length ≤ 15 ∧ us ≠ [] ∧ (∀ r ∈ us, WTx r) ∧ m = 15 - us.length, ⟨_, as, vs, rfl, s4, hW4, by omega, fun e => by rw [e] at vl; simp at vl; omega, vtx, rfl⟩, fun m σ H2 h => ?_⟩
      obtain ⟨as', us, rfl, s5, hW5, u15, une, utx, rfl⟩ := h
      have al : (as'.map V.ref).length = us.length := by rw [List.length_map, hW5.len, List.length_map]
      refine ⟨_, rfl, g, _, rfl, .inl (SqL.of hW5.hg), _, rfl, _, _, rfl, rfl, ⟨by decide, by decide⟩, _, _, rfl, rfl, (show (0 : Int) < 9 by decide), _, _, rfl, rfl, _, _, rfl, rfl, _, rfl, ?_⟩
      rw [al]
      refine ite2 (fun cc => ?_) (fun cc => ?_)
      · have c1 : ((us.length : Nat) : Int) < 7 + c / 11 % 9 := of_decide_eq_true cc
        refine ⟨fun σ' H' => ∃ m', m' < 15 - us.length ∧ ∃ (as' : List Addr) (us : List WR), σ' = [some (.ref sa), some (.int c), some (.int a), some (.int d), some (.str (headC a d)), some (.ref g), y, some (.str (lineT a d ws)), some (.int kind), some .non, some (.str "TooMany"), none] ∧ Same H H' ∧ HW H' g as' (us.map itS) ∧ us.length ≤ 15 ∧ us ≠ [] ∧ (∀ r ∈ us, WTx r) ∧ m' = 15 - us.length, fun σ' H' z => z, ?_⟩
        refine ⟨_, rfl, .inl ⟨rfl, _, SqL.of hW5.hg⟩, (by show 2 ≤ sizeLine; decide), fun p hp => ?_⟩
        have s6 := same_upd hp (.lst [V.str "calm", .str "0"])
        refine ⟨g, _, _, rfl, rfl, s6 _ _ hW5.hg, smlt (m := 1000) (by rw [al]; omega), ?_⟩
        have hW6 := hW5.push (w := itS ("calm", [0])) s6 hp upd_same
        refine ⟨15 - (us.length + 1), by omega, as' ++ [p], us ++ [((("calm" : Str), [(0 : Int)]) : WR)], rfl, (s5.trans s6).put hg _, by rw [List.map_append]; exact hW6, by rw [List.length_append, List.length_singleton]; omega, fun e => by simp at e, fun r hr => ?_, by rw [List.length_append, List.length_singleton]⟩
        rcases List.mem_append.mp hr with h | h
        · exact utx r h
        · rw [List.mem_singleton.mp h]; exact wok_calm
      · have c1 : ¬ ((us.length : Nat) : Int) < 7 + c / 11 % 9 := fun z => cc (decide_eq_true z)
        exact ⟨as', us, "TooMany", rfl, s5, hW5, u15, une, utx, .inl ⟨rfl, by omega⟩⟩
    rintro σ' H5 ⟨as', us, x, rfl, s5, hW5, u15, une, utx, hx⟩
    clear hW4 vl vtx vno s4
    refine ⟨_, rfl, _, rfl, headC a d, _, _, rfl, hW5.rel, hl100, by rw [List.length_map]; omega, tx5 utx, fun H6 s6 tl => ?_⟩
    rw [textS_line] at tl ⊢
    replace s6 := s5.trans s6
    refine ⟨_, rfl, sa, ns, 2, rfl, s6.seq hS, h63, by decide, fun z2 => ⟨_, _, rfl, rfl, (show (0 : Int) < 5 by decide), rfl, _, rfl, ?_⟩⟩
    rw [de]
    refine ite2 (fun cc => ?_) (fun cc => ?_)
    · refine ⟨_, rfl, (by show 5 ≤ sizeLine; decide), fun wp hwp => ?_⟩
      have s7 := s6.trans (same_upd hwp (.lst (bad5.map V.str)))
      have k7 : upd H6 wp (.lst (bad5.map V.str)) wp = some (.lst (bad5.map V.str)) := upd_same
      generalize upd H6 wp (.lst (bad5.map V.str)) = H7 at s7 k7 ⊢
      refine ⟨_, rfl, sa, ns, 2, rfl, s7.seq hS, h63, by decide, fun z3 => ?_⟩
      obtain ⟨t, ht, hm, _⟩ := pick (l := bad5) (n := z3 / 5 % 5) (Int.emod_nonneg _ (by decide)) (Int.emod_lt_of_pos _ (by decide))
      obtain ⟨t1, t2⟩ := bad5_ok t hm
      refine ⟨_, _, rfl, rfl, ⟨by decide, by decide⟩, _, _, rfl, rfl, (show (0 : Int) < 5 by decide), wp, _, _, .str t, rfl, rfl, SqL.of k7, ht, _, _, rfl, rfl, small (m := 10000) (by omega), ?_⟩
      exact ⟨.str (lineT a d us ++ t), "NoText", rfl, .inl ⟨.inr ⟨_, rfl, by rw [app_len]; omega, bad_suf ha hd utx une t.cps.toList (app_list _ _) t1⟩, rfl⟩, by decide⟩
    · have L : LineIs (.str (lineT a d us)) a d us := ⟨rfl, ha, hd, utx, by omega⟩
      rcases hx with ⟨rfl, l6⟩ | ⟨rfl, l6, no⟩
      · exact ⟨_, "TooMany", rfl, .inr (.inl ⟨a, d, us, L, l6, rfl⟩), by decide⟩
      · exact ⟨_, "NoWish", rfl, .inr (.inr ⟨a, d, us, L, l6, no, rfl⟩), by decide⟩
  rintro σ' H4 ⟨v, x, rfl, due, hx⟩
  clear hW s3 s2 hfr
  refine ⟨(by show 3 ≤ sizeLine; decide), fun wp hwp => ?_⟩
  have k5 : upd H4 wp (.lst [V.str "NoText", .str "TooMany", .str "NoWish"]) wp = some (.lst ((["NoText", "TooMany", "NoWish"] : List Str).map V.str)) := upd_same
  have due5 := due.up (same_upd hwp (.lst [V.str "NoText", .str "TooMany", .str "NoWish"]))
  generalize upd H4 wp (.lst [V.str "NoText", .str "TooMany", .str "NoWish"]) = H5 at k5 due5 ⊢
  refine ⟨_, rfl, v, x, rfl, due5, hx, fun p H6 s6 kp => ?_⟩
  replace k5 := s6 _ _ k5
  refine ⟨(by show 1 ≤ sizeLine; decide), fun p1 h1 => ?_⟩
  have s7 := same_upd h1 (.lst [V.bl true])
  have k7 : upd H6 p1 (.lst [V.bl true]) p1 = some (.lst [V.bl true]) := upd_same
  replace k5 := s7 _ _ k5
  replace kp := s7 _ _ kp
  generalize upd H6 p1 (.lst [V.bl true]) = H7 at s7 k7 k5 kp ⊢
  refine ⟨_, rfl, wp, rfl, ⟨_, SqL.of k5⟩, comp_listD (K := K) (a := wp) (xs := (["NoText", "TooMany", "NoWish"] : List Str).map V.str) (fun i ys H3 => H3 = H7 ∧ ys = (((["NoText", "TooMany", "NoWish"] : List Str).take i).map fun w => decide (x = w)).map V.bl) ⟨rfl, rfl⟩ (small (m := 1000) (by show 3 ≤ 1000; decide)) (fun i ys H3 hi h => ?_) (fun i u ys H3 hi h => ?_) (fun ys H3 h lb hlb => ?_)⟩
  · obtain ⟨rfl, rfl⟩ := h
    exact ⟨SqL.of k5, by rw [List.length_map, List.length_map, List.length_take]; exact Nat.min_le_left _ _⟩
  · obtain ⟨rfl, rfl⟩ := h
    rw [List.getElem?_map] at hi
    obtain ⟨t, ht, rfl⟩ : ∃ t, (["NoText", "TooMany", "NoWish"] : List Str)[i]? = some t ∧ u = V.str t := by
      cases e : (["NoText", "TooMany", "NoWish"] : List Str)[i]? with
      | none => rw [e] at hi; cases hi
      | some z => rw [e] at hi; cases hi; exact ⟨z, rfl, rfl⟩
    refine comp_yes ⟨_, rfl, _, rfl, rfl, rfl, ?_⟩
    rw [List.take_add_one, ht, List.map_append, List.map_append, sw]
    have : decide (t = x) = decide (x = t) := by rw [Bool.eq_iff_iff, decide_eq_true_eq, decide_eq_true_eq]; exact eq_comm
    rw [this]; rfl
  obtain ⟨rfl, rfl⟩ := h
  have s8 := same_upd hlb (.lst [V.bl (decide (x = "NoText")), .bl (decide (x = "TooMany")), .bl (decide (x = "NoWish"))])
  have k8 : upd H3 lb (.lst [V.bl (decide (x = "NoText")), .bl (decide (x = "TooMany")), .bl (decide (x = "NoWish"))]) lb = some (.lst [V.bl (decide (x = "NoText")), .bl (decide (x = "TooMany")), .bl (decide (x = "NoWish"))]) := upd_same
  replace k7 := s8 _ _ k7
  replace kp := s8 _ _ kp
  refine ⟨p1, lb, _, _, rfl, rfl, k7, k8, (by show 4 ≤ sizeLine; decide), fun p2 h2 => ?_⟩
  have s9 := same_upd h2 (.lst ([V.bl true] ++ [V.bl (decide (x = "NoText")), .bl (decide (x = "TooMany")), .bl (decide (x = "NoWish"))]))
  have kp9 := s9 _ _ kp
  refine ⟨(by show 1 ≤ sizeLine; decide), fun p3 h3 => ?_⟩
  refine ⟨p2, p3, _, _, rfl, rfl, same_upd h3 _ _ _ upd_same, upd_same, (by show 5 ≤ sizeLine; decide), fun p4 h4 => ?_⟩
  have kp' := ((same_upd h3 (.lst [V.bl false])).trans (same_upd h4 (.lst (([V.bl true] ++ [V.bl (decide (x = "NoText")), .bl (decide (x = "TooMany")), .bl (decide (x = "NoWish"))]) ++ [V.bl false])))) _ _ kp9
  refine ⟨mk5 x, ⟨p, _, rfl, kp', paired_map (F := rBool _) (f := V.bl) (fun _ => rfl) _⟩, ⟨p4, _, rfl, upd_same, paired_map (F := rBool _) (f := V.bl) (fun _ => rfl) (mk5 x)⟩, _, rfl, iteF ?_⟩
  refine ⟨_, rfl, ?_⟩
  unfold tNil
  have L : LineIs (.str (lineT a d ws)) a d ws := ⟨rfl, ha, hd, htx, by omega⟩
  refine line_sp L (fun z => by omega) (fun _ ⟨r, hr, no⟩ => absurd (hok r hr) no) fun _ _ rp xs H9 s9 h9 => ?_
  exact ⟨_, "tuple", _, rfl, .inr (.inl ⟨rfl, _, h9⟩), isi_same _, q H9⟩
theorem main {f : Addr} {fd : FuncData} (T : Txt mg)
    (XC : XT K mg "GarthError" xRs xNs)
    (KT_COUNTS : KTupAt K mg "COUNTS" ["1", "2", "3"])
    (KT_NUMBER_KINDS : KTabAt w K mg "NUMBER_KINDS" tabNK)
    {C_Wish : Addr} (CL_Wish : ClsAt K mg "Wish" C_Wish ["word", "numbers"])
    (A_is_whole : DefAt K mg "is_whole" s_is_whole ["value"])
    (A_is_place : DefAt K mg "is_place" s_is_place ["value", "count"])
    (A_Wish___init__ : MkAt K C_Wish "Wish.__init__" s_Wish___init__ ["self", "word", "numbers"])
    (A_check_wish : DefAt K mg "check_wish" s_check_wish ["row", "asks", "deeds"])
    (A_wish_of : DefAt K mg "wish_of" s_wish_of ["row", "asks", "deeds"])
    (A_is_made_of : DefAt K mg "is_made_of" s_is_made_of ["word", "signs", "most"])
    (A_is_name : DefAt K mg "is_name" s_is_name ["word"])
    (A_is_figures : DefAt K mg "is_figures" s_is_figures ["word", "most"])
    (A_is_number : DefAt K mg "is_number" s_is_number ["word"])
    (A_check_form : DefAt K mg "check_form" s_check_form ["right"])
    (A_read_wish : DefAt K mg "read_wish" s_read_wish ["text"])
    (A_read_counts : DefAt K mg "read_counts" s_read_counts ["text"])
    (A_read_wishes : DefAt K mg "read_wishes" s_read_wishes ["text"])
    (A_law_cell_at : DefAt K mg "_law_cell_at" s_law_cell_at ["_law_script", "_law_k"])
    (A_law_wish : DefAt K mg "_law_wish" s_law_wish ["_law_cell", "_law_asks", "_law_deeds"])
    (A_law_text : DefAt K mg "_law_text" s_law_text ["_law_head", "_law_wishes"])
    (A_law_spoiled : DefAt K mg "_law_spoiled" s_law_spoiled ["_law_head", "_law_wishes", "_law_kind", "_law_cell"])
    (A_law_no_wish : DefAt K mg "_law_no_wish" s_law_no_wish ["_law_wish_here", "_law_asks", "_law_deeds", "_law_cell"])
    (A_law_marks : DefAt K mg "_law_marks" s_law_marks ["_law_line"])
    (F : Fun K "law" "law" s_law f fd) : FnOk P w K mg base CX0 7 f fd ["_law_script"] (spLaw K) := by
  have wh := ok_is_whole (P := P) (w := w) (base := base) A_is_whole T
  have pl := ok_is_place A_is_place T wh
  have md := ok_made (P := P) (w := w) (base := base) A_is_made_of T
  have nm := ok_name A_is_name T md
  have nu := ok_num A_is_number T (ok_fig A_is_figures T md)
  have fo := ok_formX (P := P) (w := w) (base := base) A_check_form T XC
  have wo := ok_wishX A_wish_of T CL_Wish (ok_cwX A_check_wish T XC KT_NUMBER_KINDS pl) (ok_initW A_Wish___init__ T CL_Wish)
  have rw_ := ok_rwsX A_read_wishes T XC fo (ok_rcX A_read_counts T KT_COUNTS fo) (ok_rwX A_read_wish T fo nm nu) wo
  have ce := ok_cell (P := P) (w := w) (base := base) A_law_cell_at T
  have te := ok_text (P := P) (w := w) (base := base) A_law_text T
  exact ok_law F T rw_ ce (ok_wish A_law_wish T) te (ok_sp A_law_spoiled T te) (ok_noW A_law_no_wish T) (ok_marks A_law_marks T XC rw_)
end
def askedOf := ({ ks := [(.df "is_whole", s_is_whole, none), (.df "is_place", s_is_place, none), (.me "Wish" "__init__" "Wish.__init__", s_Wish___init__, none), (.df "check_wish", s_check_wish, none), (.df "wish_of", s_wish_of, none), (.df "is_made_of", s_is_made_of, none), (.df "is_name", s_is_name, none), (.df "is_figures", s_is_figures, none), (.df "is_number", s_is_number, none), (.df "check_form", s_check_form, none), (.df "read_wish", s_read_wish, none), (.df "read_counts", s_read_counts, none), (.df "read_wishes", s_read_wishes, none), (.df "_law_cell_at", s_law_cell_at, none), (.df "_law_wish", s_law_wish, none), (.df "_law_text", s_law_text, none), (.df "_law_spoiled", s_law_spoiled, none), (.df "_law_no_wish", s_law_no_wish, none), (.df "_law_marks", s_law_marks, none), (.df "law", s_law, none)], cs := [("Wish", ["word", "numbers"])], is := [("MOST_LETTERS", 8), ("MOST_NUMBER_FIGURES", 9), ("MOST_WISHES", 6), ("MOST_WITHIN", 6)], ss := [("FIGURES", "0123456789"), ("LETTERS", "abcdefghijklmnopqrstuvwxyz")], bs := ["ValueError", "all", "bool", "int", "isinstance", "len", "range", "str", "tuple", "zip"], xc := fun K => xcFacts K "GarthError" xRs xNs, ext := fun K => (refLook K "COUNTS" tupOf, refLook K "NUMBER_KINDS" tabLook, ()), extW := fun w => (some (some (["1", "2", "3"] : List Str)), some (false, some (tabNK.map fun p => (hashStr w p.1, p.1, p.2))), ()) } : Asked _)
theorem all_mk {P : Program} {w : World} {K : PySem.W.Frag} {h : Heap} {mg : Str → Option Value} {fa : Addr} (e : askedOf.Ok w K) (X : K.In h) (G : h.Ns mainGlobals mg) (hfa : mg "law" = some (.ref fa)) :
    ∃ fd : FuncData, (∀ (s : Shared) (v : Value), BindsTo s fd ⟨[v], []⟩ [("_law_script", v)]) ∧ ∀ base : Heap, K.In base → base.Ns mainGlobals mg → FnOk P w K mg base CX0 7 fa fd ["_law_script"] (spLaw K) := by
  have T : Txt mg := ⟨e.noneAt X G 0 rfl, e.noneAt X G 1 rfl, e.noneAt X G 2 rfl, e.noneAt X G 3 rfl, e.noneAt X G 4 rfl, e.noneAt X G 5 rfl, e.noneAt X G 6 rfl, e.noneAt X G 7 rfl, e.noneAt X G 8 rfl, e.noneAt X G 9 rfl, e.str X G 0 rfl, e.str X G 1 rfl, e.int X G 0 rfl, e.int X G 1 rfl, e.int X G 2 rfl, e.int X G 3 rfl⟩
  have XC := xt_of X G e.exc
  have KT_COUNTS : KTupAt K mg "COUNTS" ["1", "2", "3"] := ktup_of X G (congrArg (fun p => p.1) e.more)
  have KT_NUMBER_KINDS : KTabAt w K mg "NUMBER_KINDS" tabNK := ktab_of X G (congrArg (fun p => p.2.1) e.more)
  obtain ⟨C_Wish, cA_Wish, cM_Wish, cK_Wish, CL_Wish⟩ := e.cls X G 0 rfl
  have A0 : DefAt K mg "is_whole" s_is_whole ["value"] := e.defAt X G 0 rfl (fun _ _ _ _ _ _ => L2.arg1 fun _ => rfl)
  have A1 : DefAt K mg "is_place" s_is_place ["value", "count"] := e.defAt X G 1 rfl (fun _ _ _ _ _ _ => L2.arg2 fun _ _ => rfl)
  have A2 : MkAt K C_Wish "Wish.__init__" s_Wish___init__ ["self", "word", "numbers"] := e.mkAt 2 cA_Wish cM_Wish cK_Wish rfl (fun _ _ _ _ _ _ => L2.arg3 fun _ _ _ => rfl)
  have A3 : DefAt K mg "check_wish" s_check_wish ["row", "asks", "deeds"] := e.defAt X G 3 rfl (fun _ _ _ _ _ _ => L2.arg3 fun _ _ _ => rfl)
  have A4 : DefAt K mg "wish_of" s_wish_of ["row", "asks", "deeds"] := e.defAt X G 4 rfl (fun _ _ _ _ _ _ => L2.arg3 fun _ _ _ => rfl)
  have A5 : DefAt K mg "is_made_of" s_is_made_of ["word", "signs", "most"] := e.defAt X G 5 rfl (fun _ _ _ _ _ _ => L2.arg3 fun _ _ _ => rfl)
  have A6 : DefAt K mg "is_name" s_is_name ["word"] := e.defAt X G 6 rfl (fun _ _ _ _ _ _ => L2.arg1 fun _ => rfl)
  have A7 : DefAt K mg "is_figures" s_is_figures ["word", "most"] := e.defAt X G 7 rfl (fun _ _ _ _ _ _ => L2.arg2 fun _ _ => rfl)
  have A8 : DefAt K mg "is_number" s_is_number ["word"] := e.defAt X G 8 rfl (fun _ _ _ _ _ _ => L2.arg1 fun _ => rfl)
  have A9 : DefAt K mg "check_form" s_check_form ["right"] := e.defAt X G 9 rfl (fun _ _ _ _ _ _ => L2.arg1 fun _ => rfl)
  have A10 : DefAt K mg "read_wish" s_read_wish ["text"] := e.defAt X G 10 rfl (fun _ _ _ _ _ _ => L2.arg1 fun _ => rfl)
  have A11 : DefAt K mg "read_counts" s_read_counts ["text"] := e.defAt X G 11 rfl (fun _ _ _ _ _ _ => L2.arg1 fun _ => rfl)
  have A12 : DefAt K mg "read_wishes" s_read_wishes ["text"] := e.defAt X G 12 rfl (fun _ _ _ _ _ _ => L2.arg1 fun _ => rfl)
  have A13 : DefAt K mg "_law_cell_at" s_law_cell_at ["_law_script", "_law_k"] := e.defAt X G 13 rfl (fun _ _ _ _ _ _ => L2.arg2 fun _ _ => rfl)
  have A14 : DefAt K mg "_law_wish" s_law_wish ["_law_cell", "_law_asks", "_law_deeds"] := e.defAt X G 14 rfl (fun _ _ _ _ _ _ => L2.arg3 fun _ _ _ => rfl)
  have A15 : DefAt K mg "_law_text" s_law_text ["_law_head", "_law_wishes"] := e.defAt X G 15 rfl (fun _ _ _ _ _ _ => L2.arg2 fun _ _ => rfl)
  have A16 : DefAt K mg "_law_spoiled" s_law_spoiled ["_law_head", "_law_wishes", "_law_kind", "_law_cell"] := e.defAt X G 16 rfl (fun _ _ _ _ _ _ => L2.arg4 fun _ _ _ _ => rfl)
  have A17 : DefAt K mg "_law_no_wish" s_law_no_wish ["_law_wish_here", "_law_asks", "_law_deeds", "_law_cell"] := e.defAt X G 17 rfl (fun _ _ _ _ _ _ => L2.arg4 fun _ _ _ _ => rfl)
  have A18 : DefAt K mg "_law_marks" s_law_marks ["_law_line"] := e.defAt X G 18 rfl (fun _ _ _ _ _ _ => L2.arg1 fun _ => rfl)
  obtain ⟨kV, doc, pm, an, cdv, ct, FL⟩ := e.law X G 19 rfl hfa
  exact ⟨_, fun s v => .of_eq rfl, fun base _ _ => main (P := P) (w := w) (base := base) T XC KT_COUNTS KT_NUMBER_KINDS CL_Wish A0 A1 A2 A3 A4 A5 A6 A7 A8 A9 A10 A11 A12 A13 A14 A15 A16 A17 A18 FL⟩
def asL : List Nat := [0, 1, 2, 3, 4, 5, 6, 7, 8, 9, 10, 11, 12, 13, 14, 15, 16, 17, 18, 19, 20, 21, 22, 29, 30, 31, 32, 35, 42, 43, 44, 47, 54, 55, 56, 59, 66, 67, 68, 71, 78, 79, 80, 83, 90, 91, 92, 95, 96, 97, 98, 99, 100, 101, 102, 103, 104, 105, 106, 107, 108, 109, 110, 111, 112, 113, 114, 115, 116, 117, 125, 126, 127, 128, 129, 130, 131, 132, 133, 134, 135, 136, 137, 138, 139, 140, 141, 142, 143, 144, 145, 146, 147, 148, 149, 150, 151, 152, 153, 154, 155, 156, 157, 160, 161, 162, 163, 164, 165, 166, 167, 168, 169, 170, 171, 172, 173, 174, 175, 176, 177, 178, 179, 180, 181, 182, 183, 184, 185, 186, 187, 188, 189, 190, 191, 192, 193, 194, 195, 196, 197, 198, 199, 200, 201, 202, 203, 204, 205, 206, 207, 208, 209, 210, 211, 212, 213, 214, 215, 216, 217, 218, 219, 220, 221, 222, 223, 224, 225, 226, 227, 228, 229, 230, 231, 232, 233, 234, 235, 236, 237, 238, 239, 240, 241, 242, 243, 244, 245, 246, 247, 248, 249, 250, 251, 252, 253, 254, 255, 256, 257, 258, 259, 260, 261, 262, 263, 264, 265, 266, 267, 268, 269]
def qV : Program := PySem.W.view PySem.Challenge.pw_rankgarth_k73_texts_of_wishes_refused [39]
def loV : List Str := (PySem.Challenge.pw_rankgarth_k73_texts_of_wishes_refused.main.scope.names.map (·.1)).filter fun x => !(x == "law")
def xtV (s : Shared) : Bool := PySem.W.xlAt qV [] s && PySem.W.recOk (PySem.W.RowW.records PySem.Challenge.rw_rankgarth_k73_texts_of_wishes_refused.row.toRowW) s
def dL : PySem.DefRec := ⟨"law", defArgs s_law, defBody s_law, defScope s_law, posOf s_law⟩
set_option maxHeartbeats 0
theorem head_open : PySem.W.opening PySem.Challenge.pw_rankgarth_k73_texts_of_wishes_refused = PySem.W.plainProg PySem.Challenge.pw_rankgarth_k73_texts_of_wishes_refused.main.scope.names := by kernel_rfl
theorem head_runf (w : World) (os : OsState) : (topRunQ PySem.Challenge.pw_rankgarth_k73_texts_of_wishes_refused (World.withFollow w "special-get-raises" false) 11 (some (.ref 6)) 4992 ⟨boot_tree (World.withFollow w "special-get-raises" false).params, 11, {}, Array.mk [], PySem.W.boot_drawn, PySem.W.boot_toks, os⟩ (PySem.W.topStub PySem.Challenge.pw_rankgarth_k73_texts_of_wishes_refused)).map (fun r => topLook PySem.Challenge.pw_rankgarth_k73_texts_of_wishes_refused qV loV xtV true (fun s => askedOf.look (partOf asL s.heap)) (PySem.W.boot_heap (World.withFollow w "special-get-raises" false).params) r.abs) = some (true, PySem.W.openGood qV loV, askedOf.want (World.withFollow w "special-get-raises" false)) := by kernel_rfl
theorem head_runt (w : World) (os : OsState) : (topRunQ PySem.Challenge.pw_rankgarth_k73_texts_of_wishes_refused (World.withFollow w "special-get-raises" true) 11 (some (.ref 6)) 4992 ⟨boot_tree (World.withFollow w "special-get-raises" true).params, 11, {}, Array.mk [], PySem.W.boot_drawn, PySem.W.boot_toks, os⟩ (PySem.W.topStub PySem.Challenge.pw_rankgarth_k73_texts_of_wishes_refused)).map (fun r => topLook PySem.Challenge.pw_rankgarth_k73_texts_of_wishes_refused qV loV xtV true (fun s => askedOf.look (partOf asL s.heap)) (PySem.W.boot_heap (World.withFollow w "special-get-raises" true).params) r.abs) = some (true, PySem.W.openGood qV loV, askedOf.want (World.withFollow w "special-get-raises" true)) := by kernel_rfl
theorem head_run (w : World) (os : OsState) : (topRunQ PySem.Challenge.pw_rankgarth_k73_texts_of_wishes_refused w 11 (some (.ref 6)) 4992 ⟨boot_tree w.params, 11, {}, Array.mk [], PySem.W.boot_drawn, PySem.W.boot_toks, os⟩ (PySem.W.topStub PySem.Challenge.pw_rankgarth_k73_texts_of_wishes_refused)).map (fun r => topLook PySem.Challenge.pw_rankgarth_k73_texts_of_wishes_refused qV loV xtV true (fun s => askedOf.look (partOf asL s.heap)) (PySem.W.boot_heap w.params) r.abs) = some (true, PySem.W.openGood qV loV, askedOf.want w) := PySem.W.byRow2 "special-get-raises" (P := fun w => (topRunQ PySem.Challenge.pw_rankgarth_k73_texts_of_wishes_refused w 11 (some (.ref 6)) 4992 ⟨boot_tree w.params, 11, {}, Array.mk [], PySem.W.boot_drawn, PySem.W.boot_toks, os⟩ (PySem.W.topStub PySem.Challenge.pw_rankgarth_k73_texts_of_wishes_refused)).map (fun r => topLook PySem.Challenge.pw_rankgarth_k73_texts_of_wishes_refused qV loV xtV true (fun s => askedOf.look (partOf asL s.heap)) (PySem.W.boot_heap w.params) r.abs) = some (true, PySem.W.openGood qV loV, askedOf.want w)) (fun w => head_runf w os) (fun w => head_runt w os) w
theorem head_left : PySem.W.LeftO PySem.Challenge.rw_rankgarth_k73_texts_of_wishes_refused.row.prog qV loV xtV (fun s => askedOf.look (partOf asL s.heap)) (fun w => askedOf.want w) 4992 :=
  left_tree (p := PySem.Challenge.pw_rankgarth_k73_texts_of_wishes_refused) (H₀ := PySem.W.boot_heap) (gs₀ := Array.mk []) (d₀ := PySem.W.boot_drawn) (k₀ := PySem.W.boot_toks) (m₀ := 11) (ann := some (.ref 6)) (M := 4992) (T₀ := boot_tree) (n₀ := 11) (life := {}) (PySem.W.boot_open head_open (by decide +kernel) fun s => by kernel_rfl) (fun w => by kernel_rfl) (fun P => by kernel_rfl) head_run (by decide +kernel)
end Law
open PySem PySem.W PyProof.Rows
set_option maxRecDepth 100000 in
set_option maxHeartbeats 0 in
theorem PySem.Challenge.cw_rankgarth_k73_texts_of_wishes_refused_holds : PySem.Challenge.rw_rankgarth_k73_texts_of_wishes_refused.Holds := by
  refine PySem.W.holds_law (by kernel_rfl) fun said => ?_
  refine PySem.W.holds_open (q := Law.qV) (loose := Law.loV) (Xt := Law.xtV) (XP := XL Law.qV []) (YP := fun w h => ∃ K : Frag, K.In h ∧ Law.askedOf.Ok w K) (d := Law.dL) (kwd := []) Law.head_left (fun w s e => ⟨_, L2.partOf_in _ _, e⟩) (fun w h h' y k => y.elim fun K z => ⟨K, z.1.keeps k, z.2⟩) (fun s e => xl_of s (Bool.and_eq_true_iff.mp e).1) XL.keeps (by kernel_rfl) (by kernel_rfl) (by kernel_rfl) (fun s e => recFacts_of (Bool.and_eq_true_iff.mp e).2) (by kernel_rfl) said (by kernel_rfl) ⟨rfl, rfl, rfl, rfl, rfl, by decide +kernel⟩ ?hw ?hc
  case hw => w_witness2
  case hc => exact L2.walk_ex (l := PySem.Challenge.rw_rankgarth_k73_texts_of_wishes_refused) (n := 63) (k := 7) (x := "_law_script") (nm := "law") (sp := Law.spLaw) rfl (by decide) (by kernel_rfl) ⟨rfl, by decide, by decide⟩ (by kernel_rfl) (fun w K mg fa h e X G hm => Law.all_mk e X G hm) (fun _ _ a ns hl _ hS => ⟨a, ns, rfl, hS, hl, fun _ => rfl⟩) fun _ _ _ _ z => z
